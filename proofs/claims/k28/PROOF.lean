import PyProof.Rows.All
import Wide.All
import OpenK.AllK
import Wide.FinOn
import HandS.ForMost
import HandS.Walk
import KE.KDictCopyH
import HandS.Strs
import HandS.IsInst
import HandS.SortInts
import HandS.DictComp
import HandS.Style
import HandS.More
import HandS.Wide
import KE.KDictKeyed
import HandS.TupLen
import HandS.Conv
import PyProof.ReprRoads
import PyProof.ReprLen
import PyProof.Rows.RegStrFacts
import Flt.Len
import HandS.Rev
import HandS.NoneIn
import HandS.TupAny
import HandS.TupLe
import HandS.ExcInit
import KE.KExcInit
import PyProof.ExcBaseAll.LookupError
import PyProof.ExcBaseAll.OverflowError
import PyProof.ExcBaseAll.ArithmeticError
import HandS.Exc
import HandS.ExcField
import HandS.WordsExc
import HandS.ExcIs
import KE.KExcIs
import HandS.RaiseMore
import HandS.SortRule
import HandS.Comp
import KE.DatumOrd
import KE.SortData
import PySem.Challenge.RW_insertionorders_k28_whole_all_orders_are
set_option Elab.async false
set_option linter.all false
set_option maxRecDepth 100000
set_option maxHeartbeats 2000000
/-! A dict whose keys are pairs (None or an int, a bool): the places of a search tree. -/
namespace TK
open PySem PySem.Spec PyProof.Rows L2
abbrev Place := Option Int × Bool
def oV : Option Int → V
  | none => .non
  | some i => .int i
def oL : Option Int → Leaf
  | none => .none
  | some i => .num i
def keyV (p : Place) : List V := [oV p.1, .bl p.2]
def keyL (p : Place) : List Leaf := [oL p.1, .num (if p.2 = true then 1 else 0)]
theorem keyL_inj {p q : Place} (e : keyL p = keyL q) : p = q := by
  obtain ⟨m, b⟩ := p
  obtain ⟨n, c⟩ := q
  unfold keyL at e
  injection e with e1 e2
  injection e2 with e2 _
  have hb : b = c := by
    injection e2 with e2
    cases b <;> cases c <;> first | rfl | (simp at e2)
  have hm : m = n := by
    have e1 : oL m = oL n := e1
    cases m with
    | none => cases n with
      | none => rfl
      | some j => exact absurd (show Leaf.none = Leaf.num j from e1) (fun z => nomatch z)
    | some i => cases n with
      | none => exact absurd (show Leaf.num i = Leaf.none from e1) (fun z => nomatch z)
      | some j => have e1 : Leaf.num i = Leaf.num j := e1; injection e1 with e1; rw [e1]
  rw [hb, hm]
theorem leaf_o {P : Program} {w : World} {m : Option Int} {u : Value} (r : RelV (oV m) u) : (leafKind P w).is (oL m) u = true := by
  cases m with
  | none => obtain rfl : u = Value.none := r; rfl
  | some i => obtain ⟨t, rfl⟩ := (show ∃ t, u = Value.int i t from r); exact decide_eq_true rfl
theorem leaf_b {P : Program} {w : World} {b : Bool} {u : Value} (r : RelV (.bl b) u) : (leafKind P w).is (.num (if b = true then 1 else 0)) u = true := by
  obtain rfl : u = Value.bool b := r
  exact decide_eq_true rfl
abbrev Ent := Place × Addr × Int
def EntIs : Ent → List Leaf × Addr × Value → Prop := fun p q => keyL p.1 = q.1 ∧ p.2.1 = q.2.1 ∧ ∃ t, q.2.2 = Value.int p.2.2 t
def valX (es : List Ent) (p : Place) : Option Int := (es.find? fun e => decide (e.1 = p)).map (·.2.2)
def DXh (P : Program) (w : World) (a : Addr) (es : List Ent) (h : Heap) : Prop :=
  (a == sysModules) = false ∧ ∃ xs : List (List Leaf × Addr × Value), Paired EntIs es xs ∧
    ∃ o ds ep, h.get? a = some o ∧ o.ExactDict ∧ o.data = .dict ds ep ∧ ds.toList = xs.map (entryOfKey (tupleKind (leafKind P w))) ∧ (xs.map (·.1)).Nodup
def DX (P : Program) (w : World) (a : Addr) (es : List Ent) : HO := .ext (DXh P w a es)
theorem dx_ok {P : Program} {w : World} {a : Addr} {es : List Ent} {H : Hp} {h : Heap} (d : DXh P w a es h) : ObjOk P w H h a (DX P w a es) := by
  refine ⟨d, ?_, fun h1 h2 d1 k => ?_⟩
  · obtain ⟨_, xs, _, o, ds, ep, ho, _⟩ := d
    exact ⟨o, ho⟩
  · obtain ⟨hs, xs, r, o, ds, ep, ho, rest⟩ := d1
    exact ⟨hs, xs, r, o, ds, ep, k o ho, rest⟩
theorem val_at {es : List Ent} {xs : List (List Leaf × Addr × Value)} (r : Paired EntIs es xs) (p : Place) :
    match valX es p with
    | some m => ∃ b t, atKey xs (keyL p) = some (b, Value.int m t)
    | none => atKey xs (keyL p) = none := by
  induction r with
  | nil => rfl
  | @cons e x es xs h t ih =>
    obtain ⟨h1, h2, t3, h3⟩ := h
    by_cases q : e.1 = p
    · have q' : x.1 = keyL p := by rw [← h1, q]
      have e1 : valX (e :: es) p = some e.2.2 := by simp [valX, List.find?_cons, q]
      have e2 : atKey (x :: xs) (keyL p) = some x.2 := by simp [atKey, List.find?_cons, q']
      rw [e1, e2]
      exact ⟨x.2.1, t3, by rw [← h3]⟩
    · have q' : ¬ x.1 = keyL p := fun z => q (keyL_inj (h1.trans z))
      have e1 : valX (e :: es) p = valX es p := by simp [valX, List.find?_cons, q]
      have e2 : atKey (x :: xs) (keyL p) = atKey xs (keyL p) := by simp [atKey, List.find?_cons, q']
      rw [e1, e2]
      exact ih
theorem items_key {P : Program} {w : World} {p : Place} {us : List Value} (r : Vals (keyV p) us) : ItemsAre (leafKind P w) (keyL p) us := by
  unfold keyV at r
  cases r with
  | cons r1 r2 => cases r2 with
    | cons r2 r3 => cases r3; exact .cons (leaf_o r1) (.cons (leaf_b r2) .nil)
theorem key_is {P : Program} {w : World} {H : Hp} {h : Heap} {b : Addr} {p : Place} (ok : HOk P w H h) (e : H b = some (.tup (keyV p))) : (tupleKind (leafKind P w)).is h (keyL p) b := by
  obtain ⟨_, its, r, o, h1, h2, n, h3⟩ := (show ObjOk P w H h b (.tup (keyV p)) from ok b _ e)
  exact ⟨o, its.toArray, n, h1, h2, h3, by simpa using items_key (P := P) (w := w) r⟩
/-- the dict at a holds f, at most n entries -/
def HasTk (P : Program) (w : World) (H : Hp) (a : Addr) (f : Place → Option Int) (n : Nat) : Prop :=
  ∃ es, H a = some (DX P w a es) ∧ (∀ e ∈ es, H e.2.1 = some (.tup (keyV e.1))) ∧ es.length ≤ n ∧ ∀ p, valX es p = f p
theorem HasTk.keep {P : Program} {w : World} {H H' : Hp} {a : Addr} {f : Place → Option Int} {n : Nat} (h : HasTk P w H a f n) (s : Same H H') : HasTk P w H' a f n := by
  obtain ⟨es, h1, h2, h3, h4⟩ := h
  exact ⟨es, s _ _ h1, fun e he => s _ _ (h2 e he), h3, h4⟩
theorem tk_of {P : Program} {w : World} {H : Hp} {h : Heap} {a : Addr} {es : List Ent} (ok : HOk P w H h) (e : H a = some (DX P w a es)) (k : ∀ e ∈ es, H e.2.1 = some (.tup (keyV e.1))) :
    (a == sysModules) = false ∧ ∃ xs, Paired EntIs es xs ∧ h.DictOfH (tupleKind (leafKind P w)) a xs := by
  obtain ⟨⟨hs, xs, r, o, ds, ep, ho, hx, hd, he, hn⟩, _, _⟩ := (show ObjOk P w H h a (DX P w a es) from ok a _ e)
  refine ⟨hs, xs, r, o, ds, ep, ho, hx, hd, he, ?_, hn⟩
  have all : ∀ {l : List Ent} {m : List (List Leaf × Addr × Value)}, Paired EntIs l m → (∀ e ∈ l, H e.2.1 = some (.tup (keyV e.1))) → ∀ x ∈ m, (tupleKind (leafKind P w)).is h x.1 x.2.1 := by
    intro l m q
    induction q with
    | nil => intro _ x hx; exact nomatch hx
    | @cons e x es xs hq t ih =>
      intro k y hy
      obtain ⟨q1, q2, _⟩ := hq
      rcases List.mem_cons.mp hy with z | hy
      · subst z
        rw [← q1, ← q2]
        exact key_is ok (k e List.mem_cons_self)
      · exact ih (fun e he => k e (List.mem_cons_of_mem _ he)) y hy
  exact all r k
section
variable {X : Cx} {pins : List (Addr × Obj)} {σ : L2.St} {H : Hp} {s : Shared} {a b : Addr} {p : Place} {f : Place → Option Int} {n : Nat} {A : Around} {E : Value → Shared → Prop}
theorem x_get {m : Int} {Q : Value → Shared → Prop} (hu : A.units + 1 < cLine) (I : Inv X pins σ H s) (g : HasTk X.prog X.w H a f n) (eb : H b = some (.tup (keyV p))) (hv : f p = some m)
    (h : ∀ t s', Inv X pins σ H s' → Q (.int m t) s') : wpAny (model X.prog X.w) A (getItem (.ref a) (.ref b)) Q E s := by
  obtain ⟨es, ea, ek, hl, hf⟩ := g
  obtain ⟨hs, xs, r, dd⟩ := tk_of I.hok ea ek
  have q := val_at r p
  rw [hf p, hv] at q
  obtain ⟨c, t, hc⟩ := q
  exact wpAny_getItem_heap (show (tupleKind (leafKind X.prog X.w)).room A.in1 from hu) (key_is I.hok eb) dd hc (h t _ (I.tok _))
theorem x_in {Q : Value → Shared → Prop} (hu : A.units + 1 < cLine) (I : Inv X pins σ H s) (g : HasTk X.prog X.w H a f n) (eb : H b = some (.tup (keyV p)))
    (h : ∀ s', Inv X pins σ H s' → Q (.bool (f p).isSome) s') : wpAny (model X.prog X.w) A (compareOp .In (.ref b) (.ref a)) Q E s := by
  obtain ⟨es, ea, ek, hl, hf⟩ := g
  obtain ⟨hs, xs, r, dd⟩ := tk_of I.hok ea ek
  refine wpAny_in_heap (show (tupleKind (leafKind X.prog X.w)).room A.in1 from hu) (key_is I.hok eb) hs dd ?_
  have q := val_at r p
  rw [hf p] at q
  have e : (atKey xs (keyL p)).isSome = (f p).isSome := by
    cases hv : f p with
    | none => rw [hv] at q; rw [q]; rfl
    | some m => rw [hv] at q; obtain ⟨c, t, hc⟩ := q; rw [hc]; rfl
  rw [e]
  exact h _ (I.tok _)
theorem paired_snoc {α β : Type} {F : α → β → Prop} {x : α} {y : β} : ∀ {l : List α} {m : List β}, Paired F l m → F x y → Paired F (l ++ [x]) (m ++ [y])
  | _, _, .nil, h => .cons h .nil
  | _, _, .cons r t, h => .cons r (paired_snoc t h)
theorem valX_snoc (es : List Ent) (p q : Place) (b : Addr) (m : Int) (h : valX es p = none) : valX (es ++ [(p, b, m)]) q = if q = p then some m else valX es q := by
  induction es with
  | nil =>
    by_cases e : q = p
    · subst e; simp [valX]
    · have e' : ¬ p = q := fun z => e z.symm
      simp [valX, e, e']
  | cons e es ih =>
    by_cases e1 : e.1 = p
    · exfalso
      simp [valX, List.find?_cons, e1] at h
    · have h' : valX es p = none := by simpa [valX, List.find?_cons, e1] using h
      by_cases e2 : e.1 = q
      · have e3 : ¬ q = p := fun z => e1 (e2.trans z)
        simp [valX, List.find?_cons, e2, e3]
      · have := ih h'
        simpa [valX, List.find?_cons, e2] using this
theorem x_set {m : Int} {r : Value} {Q : Unit → Shared → Prop} (hu : A.units + 1 < cLine) (I : Inv X pins σ H s) (g : HasTk X.prog X.w H a f n) (hn : n < 1000) (eb : H b = some (.tup (keyV p))) (hv : f p = none) (rv : RelV (.int m) r)
    (h : ∀ s' H', Inv X pins σ H' s' → (∀ c, c ≠ a → H' c = H c) → HasTk X.prog X.w H' a (fun q => if q = p then some m else f q) (n + 1) → Q () s') :
    wpAny (model X.prog X.w) A (setItem (.ref a) (.ref b) r) Q E s := by
  obtain ⟨es, ea, ek, hl, hf⟩ := g
  obtain ⟨hs, xs, rel, dd⟩ := tk_of I.hok ea ek
  have hz : xs.length ≤ sizeLine := by rw [← Paired.length rel]; exact Nat.le_of_lt (small1000 (by omega))
  refine wpAny_setItem_heap (hsz := hz) (show (tupleKind (leafKind X.prog X.w)).room A.in1 from hu) (key_is I.hok eb) dd fun h' dd' hsb => ?_
  have q := val_at rel p
  rw [hf p, hv] at q
  rw [storedH_new q] at dd'
  obtain ⟨o, ds, ep, h1, h2, h3, h4, _, h5⟩ := dd'
  obtain ⟨t, rfl⟩ := (show ∃ t, r = Value.int m t from rv)
  have hnb : b ≠ a := ne_of eb ea (fun z => nomatch z)
  have nt : ∀ {c : Addr} {ys : List V}, H c = some (.tup ys) → c ≠ a := fun {c ys} ec => ne_of ec ea (fun z => nomatch z)
  have I' := d_write (t' := s.toks + (tupleKind (leafKind X.prog X.w)).draws (keyL p)) (ob := DX X.prog X.w a (es ++ [(p, b, m)])) I (by rw [ea]; exact True.intro) hsb ⟨o, h1⟩
    (dx_ok ⟨hs, _, paired_snoc rel ⟨rfl, rfl, t, rfl⟩, o, ds, ep, h1, h2, h3, h4, h5⟩)
  refine h _ _ I' (fun c hc => upd_ne hc) ⟨_, upd_same, fun e he => ?_, ?_, fun q => ?_⟩
  · rcases List.mem_append.mp he with he | he
    · rw [upd_ne (nt (ek e he))]; exact ek e he
    · rw [List.mem_singleton] at he
      subst he
      rw [upd_ne hnb]
      exact eb
  · rw [List.length_append]
    exact Nat.succ_le_succ hl
  · rw [valX_snoc es p q b m ((hf p).trans hv), hf q]
end
/-! ### the readings -/
def tXGet (P : Program) (w : World) (td ty : TE) : TE := fun σ H Q => td σ H fun x H1 => ty σ H1 fun y H2 => ∃ a b f n p m, x = .ref a ∧ y = .ref b ∧ HasTk P w H2 a f n ∧ H2 b = some (.tup (keyV p)) ∧ f p = some m ∧ Q (.int m) H2
def tXIn (P : Program) (w : World) (ty td : TE) : TE := fun σ H Q => ty σ H fun y H1 => td σ H1 fun x H2 => ∃ a b f n p, x = .ref a ∧ y = .ref b ∧ HasTk P w H2 a f n ∧ H2 b = some (.tup (keyV p)) ∧ Q (.bl (f p).isSome) H2
def sXPut (P : Program) (w : World) (td ty tv : TE) : TS := fun D σ H => tv σ H fun v H1 => td σ H1 fun x H2 => ty σ H2 fun y H3 => ∃ a b f n p m, v = .int m ∧ x = .ref a ∧ y = .ref b ∧ HasTk P w H3 a f n ∧ n < 1000 ∧ H3 b = some (.tup (keyV p)) ∧ f p = none ∧
  ∀ H', (∀ c, c ≠ a → H' c = H3 c) → HasTk P w H' a (fun q => if q = p then some m else f q) (n + 1) → D.nx σ H'
def tXNew (P : Program) (w : World) : TE := fun _ H Q => ∀ q H', H q = none → (∀ c, c ≠ q → H' c = H c) → HasTk P w H' q (fun _ => none) 0 → Q (.ref q) H'
section
variable {X : Cx} {o i e value : Expr} {pos pos' tpos : Pos} {td ty tv : TE}
theorem pe_xget (hu : X.A.units + 1 < cLine) (ho : PE X o td) (hi : PE X i ty) (hs : NoSl i) : PE X (.Subscript o i pos) (tXGet X.prog X.w td ty) := by
  refine ⟨fun pins s σ H Q I h => ?_⟩
  refine subD_of PySem.F.slot_dict_getitem.lookup hs (thn (ho.run pins s σ H _ I h) fun u s1 ⟨x, H1, I1, rx, q1⟩ => thn (hi.run pins s1 σ H1 _ I1 q1) fun iv s2 ⟨y, H2, I2, ry, q2⟩ => ?_)
  obtain ⟨a, b, f, n, p, m, ex, ey, g, eb, hv, q2⟩ := q2
  subst ex ey
  obtain rfl : u = Value.ref a := rx
  obtain rfl : iv = Value.ref b := ry
  refine ⟨?_, x_get hu I2 g eb hv fun t s3 I3 => ⟨.int m, H2, I3, ⟨t, rfl⟩, q2⟩⟩
  obtain ⟨es, ea, ek, _⟩ := g
  obtain ⟨_, xs, _, dd⟩ := tk_of I2.hok ea ek
  exact dd.typeIs
theorem pc_xin (hu : X.A.units + 1 < cLine) (hi : PE X i ty) (ho : PE X o td) : PC X .In i o (tXIn X.prog X.w ty td) := by
  refine ⟨fun pins s σ H Q I h => ?_⟩
  refine thn (hi.run pins s σ H _ I h) fun iv s1 ⟨y, H1, I1, ry, q1⟩ => thn (ho.run pins s1 σ H1 _ I1 q1) fun u s2 ⟨x, H2, I2, rx, q2⟩ => ?_
  obtain ⟨a, b, f, n, p, ex, ey, g, eb, q2⟩ := q2
  subst ex ey
  obtain rfl : u = Value.ref a := rx
  obtain rfl : iv = Value.ref b := ry
  exact x_in hu I2 g eb fun s3 I3 => ⟨.bl (f p).isSome, H2, I3, rfl, q2⟩
theorem ps_xput (hu : X.A.units + 1 < cLine) (ho : PE X o td) (hi : PE X i ty) (hv : PE X value tv) (hs : swapsWith value (some (.Subscript o i pos')) pos.line X.env = pure false) :
    PS X (.Assign [.Subscript o i pos'] value pos) (sXPut X.prog X.w td ty tv) := by
  refine ⟨fun pins s σ H D I h => ?_⟩
  refine wpAny_Assign_Subscript (thn (hv.run pins s σ H _ I h) fun r s1 ⟨v, H1, I1, rv, q1⟩ => thn (ho.run pins s1 σ H1 _ I1 q1) fun u s2 ⟨x, H2, I2, rx, q2⟩ => thn (hi.run pins s2 σ H2 _ I2 q2) fun iv s3 ⟨y, H3, I3, ry, q3⟩ => ?_) hs
  obtain ⟨a, b, f, n, p, m, ev, ex, ey, g, hn, eb, hf, q3⟩ := q3
  subst ev ex ey
  obtain rfl : u = Value.ref a := rx
  obtain rfl : iv = Value.ref b := ry
  exact x_set hu I3 g hn eb hf rv fun s4 H4 I4 hc hg => ⟨σ, H4, I4, q3 H4 hc hg⟩
theorem pe_xnew : PE X (.Dict [] [] pos) (tXNew X.prog X.w) := ⟨fun pins s σ H Q I h => by
  have hd : DXh X.prog X.w s.heap.objs.size [] (s.heap.push { cls := .type "dict", data := .dict #[] }) :=
    ⟨beq_eq_false_iff_ne.mpr (Ne.symm (Nat.ne_of_lt I.big)), [], .nil, _, #[], 0, Heap.get?_push_size _ rfl, ⟨rfl, rfl, rfl⟩, rfl, rfl, List.nodup_nil⟩
  have I' := I.laid (a := s.heap.objs.size) (o := DX X.prog X.w s.heap.objs.size []) (t' := s.toks) (fun _ _ q => Heap.get?_push_of_some _ q) (Nat.le_refl _) (dx_ok hd)
  exact wpAny_Dict_empty ⟨.ref s.heap.objs.size, _, I', rfl, h _ _ (I.hok.fresh (Nat.le_refl _)) (fun c hc => upd_ne hc) ⟨[], upd_same, fun e he => (nomatch he), Nat.le_refl _, fun p => rfl⟩⟩⟩
end
end TK
/-! The mathematics of the tree that insertions build: places, walks, parents. Plain Lean. -/
namespace BstM
abbrev Place := Option Int × Bool
/-- x lies strictly between a and b -/
def btw (a b x : Int) : Prop := (a < x ∧ x < b) ∨ (b < x ∧ x < a)
instance (a b x : Int) : Decidable (btw a b x) := by unfold btw; infer_instance
/-- the place at which the key k would be inserted; the list holds the LAST inserted key first -/
def placeR : List Int → Int → Place
  | [], _ => (none, false)
  | x :: r, k => if placeR r k = placeR r x then (some x, decide (k > x)) else placeR r k
theorem placeR_mem : ∀ (r : List Int) (k m : Int), (placeR r k).1 = some m → m ∈ r
  | [], _, _, h => by simp [placeR] at h
  | x :: r, k, m, h => by
    unfold placeR at h
    split at h
    · simp only [Option.some.injEq] at h; subst h; exact List.mem_cons_self
    · exact List.mem_cons_of_mem _ (placeR_mem r k m h)
/-- two new keys have one place exactly if no key lies between them -/
theorem placeR_eq_iff : ∀ (r : List Int), r.Nodup → ∀ a b : Int, a ∉ r → b ∉ r → (placeR r a = placeR r b ↔ ∀ y ∈ r, ¬ btw a b y)
  | [], _, a, b, _, _ => by simp [placeR]
  | x :: r, hn, a, b, ha, hb => by
    rw [List.nodup_cons] at hn
    have hax : a ≠ x := fun e => ha (e ▸ List.mem_cons_self)
    have hbx : b ≠ x := fun e => hb (e ▸ List.mem_cons_self)
    have har : a ∉ r := fun e => ha (List.mem_cons_of_mem _ e)
    have hbr : b ∉ r := fun e => hb (List.mem_cons_of_mem _ e)
    have iab := placeR_eq_iff r hn.2 a b har hbr
    have iax := placeR_eq_iff r hn.2 a x har hn.1
    have ibx := placeR_eq_iff r hn.2 b x hbr hn.1
    have nx : ∀ k, (placeR r k).1 ≠ some x := fun k e => hn.1 (placeR_mem r k x e)
    unfold placeR
    by_cases e1 : placeR r a = placeR r x
    · by_cases e2 : placeR r b = placeR r x
      · rw [if_pos e1, if_pos e2]
        have h3 := iab.mp (e1.trans e2.symm)
        constructor
        · intro h y hy
          rcases List.mem_cons.mp hy with rfl | hy
          · simp only [Prod.mk.injEq, true_and, decide_eq_decide] at h
            unfold btw; omega
          · exact h3 y hy
        · intro h
          have h4 := h x List.mem_cons_self
          unfold btw at h4
          simp only [Prod.mk.injEq, true_and, decide_eq_decide]
          omega
      · rw [if_pos e1, if_neg e2]
        constructor
        · intro h; exact absurd (congrArg Prod.fst h).symm (nx b)
        · intro h; exact absurd (((iab.mpr fun y hy => h y (List.mem_cons_of_mem _ hy)).symm).trans e1) e2
    · by_cases e2 : placeR r b = placeR r x
      · rw [if_neg e1, if_pos e2]
        constructor
        · intro h; exact absurd (congrArg Prod.fst h) (nx a)
        · intro h; exact absurd ((iab.mpr fun y hy => h y (List.mem_cons_of_mem _ hy)).trans e2) e1
      · rw [if_neg e1, if_neg e2]
        rw [iab]
        constructor
        · intro h y hy
          rcases List.mem_cons.mp hy with rfl | hy
          · intro hb'
            refine e1 (iax.mpr fun z hz hb2 => h z hz ?_)
            unfold btw at *; omega
          · exact h y hy
        · intro h y hy; exact h y (List.mem_cons_of_mem _ hy)
/-- nothing of the list lies between k and o -/
def clear (r : List Int) (k o : Int) : Bool := r.all fun y => !decide (btw k o y)
theorem clear_iff {r : List Int} {k o : Int} : clear r k o = true ↔ ∀ y ∈ r, ¬ btw k o y := by
  simp [clear]
/-- what the law's inner loop leaves: the last of the keys (in the order of insertion) that sees k -/
def lastClear (all : List Int) (k : Int) (l : List Int) : Option Int := l.foldl (fun p o => if clear all k o then some o else p) none
theorem lastClear_snoc (all : List Int) (k x : Int) (l : List Int) : lastClear all k (l ++ [x]) = if clear all k x then some x else lastClear all k l := by
  unfold lastClear; rw [List.foldl_append]; rfl
theorem lastClear_congr {a b : List Int} {k : Int} {l : List Int} (h : ∀ o ∈ l, clear a k o = clear b k o) : lastClear a k l = lastClear b k l := by
  unfold lastClear
  suffices H : ∀ (l : List Int) (p : Option Int), (∀ o ∈ l, clear a k o = clear b k o) → l.foldl (fun p o => if clear a k o then some o else p) p = l.foldl (fun p o => if clear b k o then some o else p) p from H l none h
  intro l
  induction l with
  | nil => intro p _; rfl
  | cons x l ih =>
    intro p h
    rw [List.foldl_cons, List.foldl_cons, h x List.mem_cons_self]
    exact ih _ fun o ho => h o (List.mem_cons_of_mem _ ho)
/-- the law's parent is the walk's parent -/
theorem lastClear_place : ∀ (r : List Int), r.Nodup → ∀ k : Int, k ∉ r → lastClear r.reverse k r.reverse = (placeR r k).1
  | [], _, _, _ => rfl
  | x :: r, hn, k, hk => by
    rw [List.nodup_cons] at hn
    have hkx : k ≠ x := fun e => hk (e ▸ List.mem_cons_self)
    have hkr : k ∉ r := fun e => hk (List.mem_cons_of_mem _ e)
    have ih := lastClear_place r hn.2 k hkr
    have ikx := placeR_eq_iff r hn.2 k x hkr hn.1
    rw [List.reverse_cons, lastClear_snoc]
    have hc : clear (r.reverse ++ [x]) k x = true ↔ placeR r k = placeR r x := by
      rw [clear_iff, ikx]
      constructor
      · intro h y hy; exact h y (List.mem_append_left _ (List.mem_reverse.mpr hy))
      · intro h y hy
        rcases List.mem_append.mp hy with hy | hy
        · exact h y (List.mem_reverse.mp hy)
        · rw [List.mem_singleton] at hy; subst hy; unfold btw; omega
    unfold placeR
    by_cases e : placeR r k = placeR r x
    · rw [if_pos (hc.mpr e), if_pos e]
    · rw [if_neg (fun z => e (hc.mp z)), if_neg e, ← ih]
      refine lastClear_congr fun o ho => ?_
      have hor : o ∈ r := List.mem_reverse.mp ho
      rw [Bool.eq_iff_iff, clear_iff, clear_iff]
      constructor
      · intro h y hy; exact h y (List.mem_append_left _ hy)
      · intro h y hy
        rcases List.mem_append.mp hy with hy | hy
        · exact h y hy
        · rw [List.mem_singleton] at hy; subst hy
          intro hb
          apply e
          rw [ikx]
          intro z hz hb2
          refine h z (List.mem_reverse.mpr hz) ?_
          unfold btw at *; omega
/-- what the dict of places holds, the last inserted key first in the list -/
def takenR : List Int → Place → Option Int
  | [], _ => none
  | x :: r, p => if p = placeR r x then some x else takenR r p
theorem takenR_mem : ∀ (r : List Int) (p : Place) (m : Int), takenR r p = some m → m ∈ r
  | [], _, _, h => by simp [takenR] at h
  | x :: r, p, m, h => by
    unfold takenR at h
    split at h
    · simp only [Option.some.injEq] at h; subst h; exact List.mem_cons_self
    · exact List.mem_cons_of_mem _ (takenR_mem r p m h)
/-- a place under x is free if x has not been inserted -/
theorem takenR_new : ∀ (r : List Int) (x : Int) (b : Bool), x ∉ r → takenR r (some x, b) = none
  | [], _, _, _ => rfl
  | y :: r, x, b, h => by
    unfold takenR
    have hr : x ∉ r := fun e => h (List.mem_cons_of_mem _ e)
    rw [if_neg ?_]
    · exact takenR_new r x b hr
    · intro e
      exact hr (placeR_mem r y x (congrArg Prod.fst e).symm)
/-- one step of a search for k from the place p; n steps -/
def stepR (r : List Int) (k : Int) (p : Place) : Place := match takenR r p with
  | some m => (some m, decide (k > m))
  | none => p
def stepsR (r : List Int) (k : Int) : Nat → Place
  | 0 => (none, false)
  | n + 1 => stepR r k (stepsR r k n)
/-- the search ends at the place: there is a number of steps n, all before it are taken, the place is free -/
theorem search_ends : ∀ (r : List Int), r.Nodup → ∀ k : Int, k ∉ r →
    ∃ n, n ≤ r.length ∧ stepsR r k n = placeR r k ∧ takenR r (placeR r k) = none ∧ ∀ i, i < n → (takenR r (stepsR r k i)).isSome = true
  | [], _, k, _ => ⟨0, Nat.le_refl _, rfl, rfl, fun i h => absurd h (Nat.not_lt_zero _)⟩
  | x :: r, hn, k, hk => by
    rw [List.nodup_cons] at hn
    have hkx : k ≠ x := fun e => hk (e ▸ List.mem_cons_self)
    have hkr : k ∉ r := fun e => hk (List.mem_cons_of_mem _ e)
    obtain ⟨n, hl, h1, h2, h3⟩ := search_ends r hn.2 k hkr
    obtain ⟨m, _, g1, g2, g3⟩ := search_ends r hn.2 x hn.1
    -- the places on the way are taken ones, so not x's own
    have nx : ∀ i, i < n → stepsR r k i ≠ placeR r x := fun i hi e => by
      have := h3 i hi
      rw [e, g2] at this
      exact nomatch this
    have same : ∀ i, i ≤ n → stepsR (x :: r) k i = stepsR r k i := by
      intro i
      induction i with
      | zero => intro _; rfl
      | succ i ih =>
        intro hi
        have e := ih (Nat.le_of_succ_le hi)
        show stepR (x :: r) k (stepsR (x :: r) k i) = stepR r k (stepsR r k i)
        rw [e]
        unfold stepR
        have : takenR (x :: r) (stepsR r k i) = takenR r (stepsR r k i) := by
          show (if stepsR r k i = placeR r x then some x else takenR r (stepsR r k i)) = _
          rw [if_neg (nx i hi)]
        rw [this]
    have tk : ∀ i, i < n → (takenR (x :: r) (stepsR (x :: r) k i)).isSome = true := fun i hi => by
      rw [same i (Nat.le_of_lt hi)]
      show (if stepsR r k i = placeR r x then some x else takenR r (stepsR r k i)).isSome = true
      rw [if_neg (nx i hi)]
      exact h3 i hi
    by_cases e : placeR r k = placeR r x
    · have ep : placeR (x :: r) k = (some x, decide (k > x)) := by
        show (if placeR r k = placeR r x then (some x, decide (k > x)) else placeR r k) = _
        rw [if_pos e]
      have et : takenR (x :: r) (stepsR (x :: r) k n) = some x := by
        rw [same n (Nat.le_refl _), h1]
        show (if placeR r k = placeR r x then some x else takenR r (placeR r k)) = some x
        rw [if_pos e]
      refine ⟨n + 1, Nat.succ_le_succ hl, ?_, ?_, fun i hi => ?_⟩
      · rw [ep]
        show stepR (x :: r) k (stepsR (x :: r) k n) = _
        unfold stepR
        rw [et]
      · rw [ep]
        show (if (some x, decide (k > x)) = placeR r x then some x else takenR r (some x, decide (k > x))) = none
        rw [if_neg (fun z => hn.1 (placeR_mem r x x (congrArg Prod.fst z).symm))]
        exact takenR_new r x _ hn.1
      · by_cases hi' : i < n
        · exact tk i hi'
        · have : i = n := by omega
          subst this
          rw [et]; rfl
    · have ep : placeR (x :: r) k = placeR r k := by
        show (if placeR r k = placeR r x then (some x, decide (k > x)) else placeR r k) = _
        rw [if_neg e]
      refine ⟨n, Nat.le_succ_of_le hl, ?_, ?_, tk⟩
      · rw [ep, same n (Nat.le_refl _), h1]
      · rw [ep]
        show (if placeR r k = placeR r x then some x else takenR r (placeR r k)) = none
        rw [if_neg e]
        exact h2
end BstM
/-! Trees: places of present keys, orders that build the same tree, depths, rows. Plain Lean. -/
namespace BstM
/-- the place at which a present key stands -/
def placeOf : List Int → Int → Place
  | [], _ => (none, false)
  | x :: r, k => if k = x then placeR r x else placeOf r k
theorem placeOf_head (r : List Int) (x : Int) : placeOf (x :: r) x = placeR r x := by unfold placeOf; rw [if_pos rfl]
theorem placeOf_tail {r : List Int} {x k : Int} (h : k ≠ x) : placeOf (x :: r) k = placeOf r k := by rw [placeOf, if_neg h]
theorem placeR_free (r : List Int) (hn : r.Nodup) (k : Int) (hk : k ∉ r) : takenR r (placeR r k) = none := by
  obtain ⟨_, _, _, h, _⟩ := search_ends r hn k hk
  exact h
theorem taken_place : ∀ (r : List Int), r.Nodup → ∀ k ∈ r, takenR r (placeOf r k) = some k
  | [], _, k, h => nomatch h
  | x :: r, hn, k, h => by
    rw [List.nodup_cons] at hn
    by_cases e : k = x
    · subst e
      rw [placeOf_head, takenR, if_pos rfl]
    · have hk : k ∈ r := by
        rcases List.mem_cons.mp h with z | z
        · exact absurd z e
        · exact z
      have ih := taken_place r hn.2 k hk
      rw [placeOf_tail e, takenR, if_neg ?_]
      · exact ih
      · intro z
        rw [z, placeR_free r hn.2 x hn.1] at ih
        exact nomatch ih
theorem place_of_taken : ∀ (r : List Int), r.Nodup → ∀ (p : Place) (k : Int), takenR r p = some k → placeOf r k = p
  | [], _, p, k, h => by simp [takenR] at h
  | x :: r, hn, p, k, h => by
    rw [List.nodup_cons] at hn
    rw [takenR] at h
    split at h
    · rename_i e
      obtain rfl := Option.some.inj h
      rw [placeOf_head, e]
    · have hk := takenR_mem r p k h
      have hne : k ≠ x := fun z => hn.1 (by rw [← z]; exact hk)
      rw [placeOf_tail hne]
      exact place_of_taken r hn.2 p k h
/-- the search for a present key ends at it -/
theorem search_finds : ∀ (r : List Int), r.Nodup → ∀ k ∈ r, ∃ n, n ≤ r.length ∧ stepsR r k n = placeOf r k ∧ ∀ i, i < n → ∃ m, takenR r (stepsR r k i) = some m ∧ m ≠ k
  | [], _, k, h => nomatch h
  | x :: r, hn, k, h => by
    rw [List.nodup_cons] at hn
    have fx := placeR_free r hn.2 x hn.1
    -- a way over taken places is not changed by x
    have lift : ∀ n, (∀ i, i < n → ∃ m, takenR r (stepsR r k i) = some m ∧ m ≠ k) → (∀ i, i ≤ n → stepsR (x :: r) k i = stepsR r k i) ∧ ∀ i, i < n → ∃ m, takenR (x :: r) (stepsR (x :: r) k i) = some m ∧ m ≠ k := by
      intro n ht
      have ne : ∀ i, i < n → stepsR r k i ≠ placeR r x := fun i hi e => by
        obtain ⟨m, hm, _⟩ := ht i hi
        rw [e, fx] at hm
        exact nomatch hm
      have tk : ∀ i, i < n → takenR (x :: r) (stepsR r k i) = takenR r (stepsR r k i) := fun i hi => by rw [takenR, if_neg (ne i hi)]
      have same : ∀ i, i ≤ n → stepsR (x :: r) k i = stepsR r k i := by
        intro i
        induction i with
        | zero => intro _; rfl
        | succ i ih =>
          intro hi
          show stepR (x :: r) k (stepsR (x :: r) k i) = stepR r k (stepsR r k i)
          rw [ih (Nat.le_of_succ_le hi)]
          unfold stepR
          rw [tk i hi]
      refine ⟨same, fun i hi => ?_⟩
      rw [same i (Nat.le_of_lt hi), tk i hi]
      exact ht i hi
    by_cases e : k = x
    · subst e
      obtain ⟨n, hl, h1, _, h3⟩ := search_ends r hn.2 k hn.1
      have h3' : ∀ i, i < n → ∃ m, takenR r (stepsR r k i) = some m ∧ m ≠ k := fun i hi => by
        obtain ⟨m, hm⟩ := Option.isSome_iff_exists.mp (h3 i hi)
        exact ⟨m, hm, fun z => hn.1 (z ▸ takenR_mem r _ m hm)⟩
      obtain ⟨same, tk⟩ := lift n h3'
      refine ⟨n, Nat.le_succ_of_le hl, ?_, tk⟩
      rw [same n (Nat.le_refl _), h1, placeOf_head]
    · have hk : k ∈ r := by
        rcases List.mem_cons.mp h with z | z
        · exact absurd z e
        · exact z
      obtain ⟨n, hl, h1, h3⟩ := search_finds r hn.2 k hk
      obtain ⟨same, tk⟩ := lift n h3
      refine ⟨n, Nat.le_succ_of_le hl, ?_, tk⟩
      rw [same n (Nat.le_refl _), h1, placeOf_tail e]
/-- parents come before their children: the last inserted key first in the list -/
def Later (r : List Int) : List Int → Prop
  | [] => True
  | x :: q => (∀ m, (placeOf r x).1 = some m → m ∈ q) ∧ Later r q
/-- an order of keys of the tree in which parents come before children builds the same places -/
theorem rebuild : ∀ (r : List Int), r.Nodup → ∀ q : List Int, q.Nodup → (∀ x ∈ q, x ∈ r) → Later r q →
    (∀ p, takenR q p = match takenR r p with | some k => if k ∈ q then some k else none | none => none) ∧ ∀ k ∈ q, placeOf q k = placeOf r k
  | r, hr, [], _, _, _ => by
    refine ⟨fun p => ?_, fun k hk => (nomatch hk)⟩
    cases takenR r p <;> simp [takenR]
  | r, hr, x :: q, hq, hs, hl => by
    rw [List.nodup_cons] at hq
    obtain ⟨ih1, ih2⟩ := rebuild r hr q hq.2 (fun y hy => hs y (List.mem_cons_of_mem _ hy)) hl.2
    have hx := hs x List.mem_cons_self
    -- ancestors of what is in q are in q
    have closed : ∀ q' : List Int, Later r q' → ∀ y ∈ q', ∀ m, (placeOf r y).1 = some m → m ∈ q' := by
      intro q'
      induction q' with
      | nil => intro _ y hy; exact nomatch hy
      | cons z q' ihq =>
        intro hl' y hy m hm
        rcases List.mem_cons.mp hy with rfl | hy
        · exact List.mem_cons_of_mem _ (hl'.1 m hm)
        · exact List.mem_cons_of_mem _ (ihq hl'.2 y hy m hm)
    obtain ⟨n, _, h1, h3⟩ := search_finds r hr x hx
    -- the keys on the way to x are in q
    have way : ∀ j, j ≤ n → ∀ i, i + j = n → (0 < j → ∃ m, takenR r (stepsR r x i) = some m ∧ m ∈ q) := by
      intro j
      induction j with
      | zero => intro _ i _ h; exact absurd h (Nat.lt_irrefl _)
      | succ j ihj =>
        intro hj i hi _
        obtain ⟨m, hm, hne⟩ := h3 i (by omega)
        refine ⟨m, hm, ?_⟩
        have next : stepsR r x (i + 1) = (some m, decide (x > m)) := by
          show stepR r x (stepsR r x i) = _
          unfold stepR
          rw [hm]
        by_cases hj0 : j = 0
        · subst hj0
          have : i + 1 = n := by omega
          rw [this, h1] at next
          exact hl.1 m (by rw [next])
        · obtain ⟨m', hm', hq'⟩ := ihj (by omega) (i + 1) (by omega) (by omega)
          rw [next] at hm'
          have := place_of_taken r hr _ m' hm'
          exact closed q hl.2 m' hq' m (by rw [this])
    have sameStep : ∀ i, i ≤ n → stepsR q x i = stepsR r x i := by
      intro i
      induction i with
      | zero => intro _; rfl
      | succ i ihi =>
        intro hi
        show stepR q x (stepsR q x i) = stepR r x (stepsR r x i)
        rw [ihi (Nat.le_of_succ_le hi)]
        unfold stepR
        obtain ⟨m, hm, hmq⟩ := way (n - i) (by omega) i (by omega) (by omega)
        have := ih1 (stepsR r x i)
        rw [hm] at this
        simp only [hmq, if_true] at this
        rw [this, hm]
    -- so x goes to its own place
    have free : takenR q (placeOf r x) = none := by
      rw [ih1, taken_place r hr x hx]
      simp [hq.1]
    have goal : placeR q x = placeOf r x := by
      obtain ⟨n', _, g1, g2, g3⟩ := search_ends q hq.2 x hq.1
      have hnn : n' = n := by
        rcases Nat.lt_trichotomy n' n with h | h | h
        · obtain ⟨m, hm, hmq⟩ := way (n - n') (by omega) n' (by omega) (by omega)
          have e := ih1 (stepsR r x n')
          rw [hm] at e
          simp only [hmq, if_true] at e
          rw [← sameStep n' (Nat.le_of_lt h), g1, g2] at e
          exact nomatch e
        · exact h
        · have e := g3 n h
          rw [sameStep n (Nat.le_refl _), h1, free] at e
          exact nomatch e
      rw [← g1, hnn, sameStep n (Nat.le_refl _), h1]
    refine ⟨fun p => ?_, fun k hk => ?_⟩
    · rw [takenR, goal]
      by_cases e : p = placeOf r x
      · rw [if_pos e, e, taken_place r hr x hx]
        simp
      · rw [if_neg e, ih1]
        cases hp : takenR r p with
        | none => rfl
        | some k =>
          have hkx : k ≠ x := fun z => e (by rw [← place_of_taken r hr p k hp, z])
          simp [hkx]
    · by_cases e : k = x
      · subst e
        rw [placeOf_head, goal]
      · rw [placeOf_tail e]
        rcases List.mem_cons.mp hk with z | z
        · exact absurd z e
        · exact ih2 k z
/-- the depth of a present key -/
def dep : List Int → Int → Nat
  | [], _ => 0
  | x :: r, k => if k = x then (match (placeR r x).1 with | none => 0 | some m => dep r m + 1) else dep r k
theorem placeOf_mem : ∀ {r : List Int} {k m : Int}, (placeOf r k).1 = some m → m ∈ r
  | [], _, _, h => by simp [placeOf] at h
  | x :: r, k, m, h => by
    unfold placeOf at h
    split at h
    · exact List.mem_cons_of_mem _ (placeR_mem r x m h)
    · exact List.mem_cons_of_mem _ (placeOf_mem h)
theorem dep_eq : ∀ (r : List Int), r.Nodup → ∀ k ∈ r, dep r k = match (placeOf r k).1 with | none => 0 | some m => dep r m + 1
  | [], _, k, h => nomatch h
  | x :: r, hn, k, h => by
    rw [List.nodup_cons] at hn
    have tail : ∀ m ∈ r, dep (x :: r) m = dep r m := fun m hm => by
      have hne : m ≠ x := fun z => hn.1 (by rw [← z]; exact hm)
      rw [dep, if_neg hne]
    by_cases e : k = x
    · subst e
      rw [placeOf_head, dep, if_pos rfl]
      cases hp : (placeR r k).1 with
      | none => rfl
      | some m => show dep r m + 1 = dep (k :: r) m + 1; rw [tail m (placeR_mem r k m hp)]
    · have hk : k ∈ r := by
        rcases List.mem_cons.mp h with z | z
        · exact absurd z e
        · exact z
      rw [placeOf_tail e, tail k hk, dep_eq r hn.2 k hk]
      cases hp : (placeOf r k).1 with
      | none => rfl
      | some m => show dep r m + 1 = dep (x :: r) m + 1; rw [tail m (placeOf_mem hp)]
end BstM
/-! Rows of a tree: the keys at each depth. Plain Lean. -/
namespace BstM
def rowAt (r ms : List Int) (d : Nat) : List Int := ms.filter fun k => decide (dep r k = d)
def hgt (r : List Int) : List Int → Nat
  | [] => 0
  | k :: l => max (dep r k + 1) (hgt r l)
theorem hgt_gt (r : List Int) : ∀ (l : List Int) (k : Int), k ∈ l → dep r k < hgt r l
  | [], k, h => nomatch h
  | x :: l, k, h => by
    unfold hgt
    rcases List.mem_cons.mp h with rfl | h
    · omega
    · have := hgt_gt r l k h
      omega
theorem hgt_has (r : List Int) : ∀ (l : List Int), 0 < hgt r l → ∃ k ∈ l, dep r k + 1 = hgt r l
  | [], h => absurd h (Nat.lt_irrefl _)
  | x :: l, h => by
    unfold hgt
    by_cases e : hgt r l ≤ dep r x + 1
    · exact ⟨x, List.mem_cons_self, by omega⟩
    · obtain ⟨k, hk, ek⟩ := hgt_has r l (by omega)
      exact ⟨k, List.mem_cons_of_mem _ hk, by omega⟩
theorem dep_chain (r : List Int) (hr : r.Nodup) : ∀ (n : Nat) (k : Int), k ∈ r → dep r k = n → ∀ d, d ≤ n → ∃ m ∈ r, dep r m = d := by
  intro n
  induction n with
  | zero => intro k hk e d hd; exact ⟨k, hk, by omega⟩
  | succ n ih =>
    intro k hk e d hd
    by_cases h : d = n + 1
    · exact ⟨k, hk, by omega⟩
    · have := dep_eq r hr k hk
      cases hp : (placeOf r k).1 with
      | none => rw [hp] at this; simp only at this; omega
      | some m =>
        rw [hp] at this
        simp only at this
        exact ih m (placeOf_mem hp) (by omega) d (by omega)
/-- a row is empty exactly from the height on -/
theorem row_some {r ms : List Int} (hr : r.Nodup) (hm : ∀ k, k ∈ ms ↔ k ∈ r) {d : Nat} (h : d < hgt r ms) : rowAt r ms d ≠ [] := by
  obtain ⟨k, hk, ek⟩ := hgt_has r ms (by omega)
  obtain ⟨m, hm', em⟩ := dep_chain r hr (dep r k) k ((hm k).mp hk) rfl d (by omega)
  intro e
  have : m ∈ rowAt r ms d := List.mem_filter.mpr ⟨(hm m).mpr hm', decide_eq_true em⟩
  rw [e] at this
  exact nomatch this
theorem row_none {r ms : List Int} {d : Nat} (h : hgt r ms ≤ d) : rowAt r ms d = [] := by
  unfold rowAt
  rw [List.filter_eq_nil_iff]
  intro k hk
  have := hgt_gt r ms k hk
  simp only [decide_eq_true_eq]
  omega
/-- the keys row by row -/
def rowOrder (r ms : List Int) : List Int := (List.range (hgt r ms)).flatMap (rowAt r ms)
theorem mem_rowAt {r ms : List Int} {d : Nat} {k : Int} : k ∈ rowAt r ms d ↔ k ∈ ms ∧ dep r k = d := by
  unfold rowAt
  rw [List.mem_filter, decide_eq_true_eq]
theorem mem_rowOrder {r ms : List Int} {k : Int} : k ∈ rowOrder r ms ↔ k ∈ ms := by
  unfold rowOrder
  rw [List.mem_flatMap]
  constructor
  · rintro ⟨d, _, h⟩
    exact (mem_rowAt.mp h).1
  · intro h
    exact ⟨dep r k, List.mem_range.mpr (hgt_gt r ms k h), mem_rowAt.mpr ⟨h, rfl⟩⟩
theorem rowOrder_nodup {r ms : List Int} (hm : ms.Nodup) : (rowOrder r ms).Nodup := by
  unfold rowOrder List.Nodup
  rw [List.pairwise_flatMap]
  refine ⟨fun d _ => hm.sublist List.filter_sublist, ?_⟩
  refine List.Pairwise.imp (R := (· ≠ ·)) (fun {a b} hab x hx y hy e => ?_) List.nodup_range
  subst e
  exact hab ((mem_rowAt.mp hx).2.symm.trans (mem_rowAt.mp hy).2)
theorem rowOrder_perm {r ms : List Int} (hm : ms.Nodup) : (rowOrder r ms).Perm ms := (List.perm_ext_iff_of_nodup (rowOrder_nodup hm) hm).mpr fun _ => mem_rowOrder
theorem rowOrder_dep {r ms : List Int} : (rowOrder r ms).Pairwise fun a b => dep r a ≤ dep r b := by
  unfold rowOrder
  rw [List.pairwise_flatMap]
  refine ⟨fun d _ => ?_, ?_⟩
  · refine List.pairwise_of_forall_mem_list (fun a ha b hb => ?_)
    rw [(mem_rowAt.mp ha).2, (mem_rowAt.mp hb).2]
    exact Nat.le_refl _
  · refine List.Pairwise.imp (R := (· < ·)) (fun {a b} hab x hx y hy => ?_) List.pairwise_lt_range
    rw [(mem_rowAt.mp hx).2, (mem_rowAt.mp hy).2]
    exact Nat.le_of_lt hab
theorem later_of (r : List Int) (hr : r.Nodup) : ∀ l : List Int, (l.Pairwise fun a b => dep r b ≤ dep r a) → (∀ x ∈ l, x ∈ r) → (∀ x ∈ l, ∀ m, (placeOf r x).1 = some m → m ∈ l) → Later r l
  | [], _, _, _ => trivial
  | x :: q, hp, hs, hc => by
    rw [List.pairwise_cons] at hp
    have low : ∀ y ∈ x :: q, ∀ m, (placeOf r y).1 = some m → dep r m < dep r y := fun y hy m hm => by
      have := dep_eq r hr y (hs y hy)
      rw [hm] at this
      simp only at this
      omega
    refine ⟨fun m hm => ?_, later_of r hr q hp.2 (fun y hy => hs y (List.mem_cons_of_mem _ hy)) fun y hy m hm => ?_⟩
    · rcases List.mem_cons.mp (hc x List.mem_cons_self m hm) with e | h
      · have := low x List.mem_cons_self m hm
        rw [e] at this
        exact absurd this (Nat.lt_irrefl _)
      · exact h
    · rcases List.mem_cons.mp (hc y (List.mem_cons_of_mem _ hy) m hm) with e | h
      · have h1 := low y (List.mem_cons_of_mem _ hy) m hm
        have h2 := hp.1 y hy
        rw [e] at h1
        omega
      · exact h
/-- the rows, one after another, build the same tree -/
theorem rows_rebuild {r ms : List Int} (hr : r.Nodup) (hm : ms.Nodup) (he : ∀ k, k ∈ ms ↔ k ∈ r) : ∀ k ∈ ms, placeOf (rowOrder r ms).reverse k = placeOf r k := by
  have hn : (rowOrder r ms).reverse.Nodup := by
    have h2 := rowOrder_nodup (r := r) hm
    unfold List.Nodup at h2 ⊢
    rw [List.pairwise_reverse]
    exact h2.imp fun z e => z e.symm
  have hL : Later r (rowOrder r ms).reverse := by
    refine later_of r hr _ ?_ (fun x hx => (he x).mp (mem_rowOrder.mp (List.mem_reverse.mp hx))) fun x hx m hmx => ?_
    · rw [List.pairwise_reverse]
      exact rowOrder_dep
    · exact List.mem_reverse.mpr (mem_rowOrder.mpr ((he m).mpr (placeOf_mem hmx)))
  obtain ⟨_, h⟩ := rebuild r hr _ hn (fun x hx => (he x).mp (mem_rowOrder.mp (List.mem_reverse.mp hx))) hL
  intro k hk
  exact h k (List.mem_reverse.mpr (mem_rowOrder.mpr hk))
end BstM
/-! Paths and children in a tree. Plain Lean. -/
namespace BstM
/-- the keys from a present key up to the root -/
def pathUp : List Int → Int → List Int
  | [], _ => []
  | x :: r, k => if k = x then x :: (match (placeR r x).1 with | none => [] | some m => pathUp r m) else pathUp r k
def restUp (r : List Int) : Option Int → List Int
  | none => []
  | some m => pathUp r m
theorem pathUp_eq : ∀ (r : List Int), r.Nodup → ∀ k ∈ r, pathUp r k = k :: restUp r (placeOf r k).1
  | [], _, k, h => nomatch h
  | x :: r, hn, k, h => by
    rw [List.nodup_cons] at hn
    have tail : ∀ m ∈ r, pathUp (x :: r) m = pathUp r m := fun m hm => by
      have hne : m ≠ x := fun z => hn.1 (by rw [← z]; exact hm)
      rw [pathUp, if_neg hne]
    by_cases e : k = x
    · subst e
      rw [placeOf_head, pathUp, if_pos rfl]
      cases hp : (placeR r k).1 with
      | none => rfl
      | some m => show k :: pathUp r m = k :: pathUp (k :: r) m; rw [tail m (placeR_mem r k m hp)]
    · have hk : k ∈ r := by
        rcases List.mem_cons.mp h with z | z
        · exact absurd z e
        · exact z
      rw [placeOf_tail e, tail k hk, pathUp_eq r hn.2 k hk]
      cases hp : (placeOf r k).1 with
      | none => rfl
      | some m => show k :: pathUp r m = k :: pathUp (x :: r) m; rw [tail m (placeOf_mem hp)]
theorem pathUp_mem : ∀ (r : List Int) (k m : Int), m ∈ pathUp r k → m ∈ r
  | [], _, _, h => nomatch h
  | x :: r, k, m, h => by
    rw [pathUp] at h
    split at h
    · rcases List.mem_cons.mp h with z | z
      · rw [z]; exact List.mem_cons_self
      · cases hp : (placeR r x).1 with
        | none => rw [hp] at z; exact nomatch z
        | some y => rw [hp] at z; exact List.mem_cons_of_mem _ (pathUp_mem r y m z)
    · exact List.mem_cons_of_mem _ (pathUp_mem r k m h)
theorem pathUp_len (r : List Int) (hr : r.Nodup) : ∀ (n : Nat) (k : Int), k ∈ r → dep r k = n → (pathUp r k).length = n + 1 := by
  intro n
  induction n with
  | zero =>
    intro k hk e
    have h1 := dep_eq r hr k hk
    rw [pathUp_eq r hr k hk]
    cases hp : (placeOf r k).1 with
    | none => rfl
    | some m => rw [hp] at h1; simp only at h1; omega
  | succ n ih =>
    intro k hk e
    have h1 := dep_eq r hr k hk
    rw [pathUp_eq r hr k hk]
    cases hp : (placeOf r k).1 with
    | none => rw [hp] at h1; simp only at h1; omega
    | some m =>
      rw [hp] at h1
      simp only at h1
      show (k :: pathUp r m).length = _
      rw [List.length_cons, ih m (placeOf_mem hp) (by omega)]
theorem pathUp_len_le (r : List Int) (hr : r.Nodup) (k : Int) (hk : k ∈ r) : (pathUp r k).length ≤ r.length := by
  have key : ∀ q : List Int, q.Nodup → ∀ k, (pathUp q k).length ≤ q.length := by
    intro q
    induction q with
    | nil => intro _ k; exact Nat.le_refl _
    | cons x q ih =>
      intro hn k
      rw [List.nodup_cons] at hn
      rw [List.length_cons, pathUp]
      split
      · rw [List.length_cons]
        cases hp : (placeR q x).1 with
        | none => exact Nat.succ_le_succ (Nat.zero_le _)
        | some m => exact Nat.succ_le_succ (ih hn.2 m)
      · have := ih hn.2 k
        omega
  exact key r hr k
theorem placeR_side : ∀ (r : List Int) (k m : Int), (placeR r k).1 = some m → (placeR r k).2 = decide (k > m)
  | [], _, _, h => by simp [placeR] at h
  | x :: r, k, m, h => by
    rw [placeR] at h ⊢
    split
    · rename_i e
      rw [if_pos e] at h
      simp only [Option.some.injEq] at h
      subst h
      rfl
    · rename_i e
      rw [if_neg e] at h
      exact placeR_side r k m h
theorem placeOf_side : ∀ (r : List Int) (k m : Int), (placeOf r k).1 = some m → (placeOf r k).2 = decide (k > m)
  | [], _, _, h => by simp [placeOf] at h
  | x :: r, k, m, h => by
    rw [placeOf] at h ⊢
    split
    · rename_i e
      rw [if_pos e] at h
      subst e
      exact placeR_side r k m h
    · rename_i e
      rw [if_neg e] at h
      exact placeOf_side r k m h
/-- the left (false) or the right (true) child -/
def kid (r : List Int) (k : Int) (b : Bool) : Option Int := takenR r (some k, b)
theorem kid_some {r : List Int} (hr : r.Nodup) {k c : Int} {b : Bool} (h : kid r k b = some c) : c ∈ r ∧ (placeOf r c).1 = some k ∧ decide (c > k) = b := by
  have hp := place_of_taken r hr _ c h
  have h1 : (placeOf r c).1 = some k := by rw [hp]
  refine ⟨takenR_mem r _ c h, h1, ?_⟩
  have := placeOf_side r c k h1
  rw [hp] at this
  exact this.symm
theorem kid_of {r : List Int} (hr : r.Nodup) {k c : Int} (hc : c ∈ r) (h : (placeOf r c).1 = some k) : kid r k (decide (c > k)) = some c := by
  have h1 := taken_place r hr c hc
  have h2 := placeOf_side r c k h
  have : placeOf r c = (some k, decide (c > k)) := by rw [← h, ← h2]
  rw [this] at h1
  exact h1
theorem kid_ne {r : List Int} (hr : r.Nodup) {k c : Int} (hc : c ∈ r) (h : (placeOf r c).1 = some k) : c ≠ k := fun e => by
  have := dep_eq r hr c hc
  rw [h] at this
  simp only at this
  rw [e] at this
  omega
end BstM
/-! Searches in a tree. Plain Lean. -/
namespace BstM
/-- the keys met in the first steps of a search -/
def metL (r : List Int) (k : Int) : Nat → List Int
  | 0 => []
  | j + 1 => metL r k j ++ (takenR r (stepsR r k j)).toList
theorem step_some {r : List Int} {k m : Int} {i : Nat} (h : takenR r (stepsR r k i) = some m) : stepsR r k (i + 1) = (some m, decide (k > m)) := by
  show stepR r k (stepsR r k i) = _
  unfold stepR
  rw [h]
theorem met_snoc {r : List Int} {k m : Int} {i : Nat} (h : takenR r (stepsR r k i) = some m) : metL r k (i + 1) = metL r k i ++ [m] := by
  show _ ++ _ = _
  rw [h]
  rfl
/-- the keys that a search meets are a path -/
theorem met_path {r : List Int} (hr : r.Nodup) {k : Int} : ∀ (i : Nat) (m : Int), (∀ j, j < i → ∃ x, takenR r (stepsR r k j) = some x) → takenR r (stepsR r k i) = some m → metL r k (i + 1) = (pathUp r m).reverse := by
  intro i
  induction i with
  | zero =>
    intro m _ h
    rw [met_snoc h]
    have hp := place_of_taken r hr _ m h
    rw [pathUp_eq r hr m (takenR_mem r _ m h), hp]
    rfl
  | succ i ih =>
    intro m hj h
    obtain ⟨x, hx⟩ := hj i (Nat.lt_succ_self _)
    rw [met_snoc h, ih x (fun j hj' => hj j (Nat.lt_succ_of_lt hj')) hx]
    have hp := place_of_taken r hr _ m h
    rw [step_some hx] at hp
    rw [pathUp_eq r hr m (takenR_mem r _ m h), hp, List.reverse_cons]
    rfl
theorem met_len {r : List Int} {k : Int} : ∀ n : Nat, (metL r k n).length ≤ n
  | 0 => Nat.le_refl _
  | n + 1 => by
    rw [metL, List.length_append]
    have := met_len (r := r) (k := k) n
    cases takenR r (stepsR r k n) <;> simp <;> omega
/-- the whole search: N keys are met -/
structure Srch (r : List Int) (k : Int) (N : Nat) : Prop where
  on : ∀ i, i < N → ∃ m, takenR r (stepsR r k i) = some m ∧ (m = k → i + 1 = N)
  fin : takenR r (stepsR r k N) = none ∨ ∃ i, i + 1 = N ∧ takenR r (stepsR r k i) = some k
  len : N ≤ r.length + 1
theorem srch_present {r : List Int} (hr : r.Nodup) {k : Int} (hk : k ∈ r) : ∃ N, Srch r k N ∧ metL r k N = (pathUp r k).reverse := by
  obtain ⟨n, hl, h1, h3⟩ := search_finds r hr k hk
  have hn : takenR r (stepsR r k n) = some k := by rw [h1]; exact taken_place r hr k hk
  refine ⟨n + 1, ⟨fun i hi => ?_, .inr ⟨n, rfl, hn⟩, Nat.succ_le_succ hl⟩, met_path hr n k (fun j hj => ?_) hn⟩
  · by_cases e : i < n
    · obtain ⟨m, hm, hne⟩ := h3 i e
      exact ⟨m, hm, fun z => absurd z hne⟩
    · obtain rfl : i = n := by omega
      exact ⟨k, hn, fun _ => rfl⟩
  · obtain ⟨m, hm, _⟩ := h3 j hj
    exact ⟨m, hm⟩
theorem srch_missing {r : List Int} (hr : r.Nodup) {k : Int} (hk : k ∉ r) : ∃ N, Srch r k N ∧ (metL r k N).getLast? = (placeR r k).1 := by
  obtain ⟨n, hl, h1, h2, h3⟩ := search_ends r hr k hk
  refine ⟨n, ⟨fun i hi => ?_, .inl (by rw [h1]; exact h2), Nat.le_succ_of_le hl⟩, ?_⟩
  · obtain ⟨m, hm⟩ := Option.isSome_iff_exists.mp (h3 i hi)
    exact ⟨m, hm, fun z => absurd (z ▸ takenR_mem r _ m hm) hk⟩
  · cases n with
    | zero =>
      rw [← h1]
      rfl
    | succ j =>
      obtain ⟨m, hm⟩ := Option.isSome_iff_exists.mp (h3 j (Nat.lt_succ_self _))
      rw [← h1, step_some hm, met_snoc hm]
      simp
/-- the keys below a child of a key stand on the child's side of it -/
theorem side_of {r : List Int} (hr : r.Nodup) {k c o : Int} {b : Bool} (hc : kid r k b = some c) (ho : o ∈ r) (h : c ∈ pathUp r o) : o ≠ k ∧ decide (o > k) = b := by
  obtain ⟨n, _, h1, h3⟩ := search_finds r hr o ho
  have hn : takenR r (stepsR r o n) = some o := by rw [h1]; exact taken_place r hr o ho
  have hpath := met_path hr n o (fun j hj => (h3 j hj).imp fun _ z => z.1) hn
  have hmem : c ∈ metL r o (n + 1) := by rw [hpath]; exact List.mem_reverse.mpr h
  -- c is met at some step
  have find : ∀ N, c ∈ metL r o N → ∃ i, i < N ∧ takenR r (stepsR r o i) = some c := by
    intro N
    induction N with
    | zero => intro z; exact nomatch z
    | succ N ih =>
      intro z
      rcases List.mem_append.mp z with z | z
      · obtain ⟨i, hi, e⟩ := ih z
        exact ⟨i, Nat.lt_succ_of_lt hi, e⟩
      · cases e : takenR r (stepsR r o N) with
        | none => rw [e] at z; exact nomatch z
        | some x =>
          rw [e] at z
          have : c = x := List.mem_singleton.mp z
          exact ⟨N, Nat.lt_succ_self _, by rw [e, this]⟩
  obtain ⟨i, hi, ei⟩ := find _ hmem
  have hp1 := place_of_taken r hr _ c ei
  have hp2 := place_of_taken r hr _ c hc
  cases i with
  | zero =>
    have : (none, false) = (some k, b) := hp1.symm.trans hp2
    cases this
  | succ j =>
    obtain ⟨m, hm, hne⟩ := h3 j (by omega)
    have e : (some m, decide (o > m)) = (some k, b) := (step_some hm).symm.trans (hp1.symm.trans hp2)
    injection e with e1 e2
    injection e1 with e1
    subst e1
    exact ⟨hne.symm, e2⟩
theorem placeR_root : ∀ (r : List Int) (k : Int), (placeR r k).1 = none → placeR r k = (none, false)
  | [], _, _ => rfl
  | x :: r, k, h => by
    rw [placeR] at h ⊢
    split
    · rename_i e; rw [if_pos e] at h; cases h
    · rename_i e
      rw [if_neg e] at h
      exact placeR_root r k h
theorem placeOf_root : ∀ (r : List Int) (k : Int), (placeOf r k).1 = none → placeOf r k = (none, false)
  | [], _, _ => rfl
  | x :: r, k, h => by
    rw [placeOf] at h ⊢
    split
    · rename_i e; rw [if_pos e] at h; exact placeR_root r x h
    · rename_i e
      rw [if_neg e] at h
      exact placeOf_root r k h
theorem filter_single {l : List Int} {p : Int → Bool} {x : Int} : l.Nodup → x ∈ l → (∀ k ∈ l, p k = true ↔ k = x) → l.filter p = [x] := by
  induction l with
  | nil => intro _ h; exact nomatch h
  | cons a l ih =>
    intro hn hx hp
    rw [List.nodup_cons] at hn
    by_cases e : a = x
    · subst e
      rw [List.filter_cons, if_pos ((hp a List.mem_cons_self).mpr rfl)]
      have : l.filter p = [] := by
        rw [List.filter_eq_nil_iff]
        intro k hk z
        have := (hp k (List.mem_cons_of_mem _ hk)).mp z
        exact hn.1 (this ▸ hk)
      rw [this]
    · have hpa : p a = false := Bool.eq_false_iff.mpr fun z => e ((hp a List.mem_cons_self).mp z)
      rw [List.filter_cons, if_neg (by rw [hpa]; exact Bool.false_ne_true)]
      refine ih hn.2 ?_ fun k hk => hp k (List.mem_cons_of_mem _ hk)
      rcases List.mem_cons.mp hx with z | z
      · exact absurd z.symm e
      · exact z
/-- the keys without a parent: the first key that any search meets -/
theorem roots_met {r ms : List Int} (hr : r.Nodup) (hm : ms.Nodup) (he : ∀ k, k ∈ ms ↔ k ∈ r) (k : Int) : ms.filter (fun x => decide ((placeOf r x).1 = none)) = metL r k 1 := by
  show _ = [] ++ (takenR r (none, false)).toList
  cases h : takenR r (none, false) with
  | none =>
    show _ = []
    rw [List.filter_eq_nil_iff]
    intro x hx z
    have h1 := taken_place r hr x ((he x).mp hx)
    rw [placeOf_root r x (of_decide_eq_true z), h] at h1
    cases h1
  | some x =>
    refine filter_single hm ((he x).mpr (takenR_mem r _ x h)) fun y hy => ?_
    constructor
    · intro z
      have h1 := taken_place r hr y ((he y).mp hy)
      rw [placeOf_root r y (of_decide_eq_true z), h] at h1
      exact (Option.some.inj h1).symm
    · intro e
      subst e
      rw [place_of_taken r hr _ y h]
      rfl
end BstM
/-! Which pairs of keys and parents are trees. Plain Lean. -/
namespace BstM
abbrev PL := List (Int × Option Int)
def underP (l : PL) (p : Option Int → Bool) : List Int := (l.filter fun x => p x.2).map (·.1)
def genRow (l : PL) : Nat → List Int
  | 0 => underP l fun o => decide (o = none)
  | d + 1 => underP l fun o => match o with | none => false | some m => decide (m ∈ genRow l d)
theorem mem_under {l : PL} {p : Option Int → Bool} {k : Int} : k ∈ underP l p ↔ ∃ o, (k, o) ∈ l ∧ p o = true := by
  unfold underP
  rw [List.mem_map]
  constructor
  · rintro ⟨x, hx, rfl⟩
    obtain ⟨h1, h2⟩ := List.mem_filter.mp hx
    exact ⟨x.2, h1, h2⟩
  · rintro ⟨o, h1, h2⟩
    exact ⟨(k, o), List.mem_filter.mpr ⟨h1, h2⟩, rfl⟩
theorem mem_gen0 {l : PL} {k : Int} : k ∈ genRow l 0 ↔ (k, none) ∈ l := by
  rw [genRow, mem_under]
  constructor
  · rintro ⟨o, h1, h2⟩
    rw [of_decide_eq_true h2] at h1
    exact h1
  · intro h
    exact ⟨none, h, rfl⟩
theorem mem_genS {l : PL} {k : Int} {d : Nat} : k ∈ genRow l (d + 1) ↔ ∃ m, (k, some m) ∈ l ∧ m ∈ genRow l d := by
  rw [genRow, mem_under]
  constructor
  · rintro ⟨o, h1, h2⟩
    cases o with
    | none => cases h2
    | some m => exact ⟨m, h1, of_decide_eq_true h2⟩
  · rintro ⟨m, h1, h2⟩
    exact ⟨some m, h1, decide_eq_true h2⟩
theorem key_uniq : ∀ {l : PL} {k : Int} {o o' : Option Int}, (l.map (·.1)).Nodup → (k, o) ∈ l → (k, o') ∈ l → o = o'
  | [], _, _, _, _, h, _ => nomatch h
  | x :: l, k, o, o', hn, h, h' => by
    rw [List.map_cons, List.nodup_cons] at hn
    rcases List.mem_cons.mp h with e | h
    · rcases List.mem_cons.mp h' with e' | h'
      · rw [← e'] at e
        exact (congrArg Prod.snd e)
      · exact absurd (List.mem_map.mpr ⟨(k, o'), h', by rw [← e]⟩) hn.1
    · rcases List.mem_cons.mp h' with e' | h'
      · exact absurd (List.mem_map.mpr ⟨(k, o), h, by rw [← e']⟩) hn.1
      · exact key_uniq hn.2 h h'
theorem gen_key {l : PL} : ∀ {d : Nat} {k : Int}, k ∈ genRow l d → k ∈ l.map (·.1)
  | 0, k, h => List.mem_map.mpr ⟨_, mem_gen0.mp h, rfl⟩
  | d + 1, k, h => by
    obtain ⟨m, h1, _⟩ := mem_genS.mp h
    exact List.mem_map.mpr ⟨_, h1, rfl⟩
theorem gen_disj {l : PL} (hn : (l.map (·.1)).Nodup) : ∀ (i j : Nat) (k : Int), k ∈ genRow l i → k ∈ genRow l j → i = j := by
  intro i
  induction i with
  | zero =>
    intro j k h h'
    cases j with
    | zero => rfl
    | succ j =>
      obtain ⟨m, h1, _⟩ := mem_genS.mp h'
      exact absurd (key_uniq hn (mem_gen0.mp h) h1) (fun z => nomatch z)
  | succ i ih =>
    intro j k h h'
    obtain ⟨m, h1, h2⟩ := mem_genS.mp h
    cases j with
    | zero => exact absurd (key_uniq hn h1 (mem_gen0.mp h')) (fun z => nomatch z)
    | succ j =>
      obtain ⟨m', h1', h2'⟩ := mem_genS.mp h'
      have e := key_uniq hn h1 h1'
      injection e with e
      rw [← e] at h2'
      rw [ih j m h2 h2']
def genOrder (l : PL) (D : Nat) : List Int := (List.range D).flatMap (genRow l)
theorem genRow_nodup {l : PL} (hn : (l.map (·.1)).Nodup) (d : Nat) : (genRow l d).Nodup := by
  cases d <;> (unfold genRow underP; exact hn.sublist ((List.filter_sublist).map _))
theorem genOrder_nodup {l : PL} (hn : (l.map (·.1)).Nodup) (D : Nat) : (genOrder l D).Nodup := by
  unfold genOrder List.Nodup
  rw [List.pairwise_flatMap]
  refine ⟨fun d _ => genRow_nodup hn d, ?_⟩
  refine List.Pairwise.imp (R := (· ≠ ·)) (fun {a b} hab x hx y hy e => ?_) List.nodup_range
  subst e
  exact hab (gen_disj hn a b x hx hy)
theorem genOrder_key {l : PL} {D : Nat} {k : Int} (h : k ∈ genOrder l D) : k ∈ l.map (·.1) := by
  obtain ⟨d, _, h⟩ := List.mem_flatMap.mp h
  exact gen_key h
theorem lenSub : ∀ (l m : List Int), l.Nodup → (∀ x ∈ l, x ∈ m) → l.length ≤ m.length
  | [], m, _, _ => Nat.zero_le _
  | x :: l, m, hn, hs => by
    rw [List.nodup_cons] at hn
    have hx := hs x List.mem_cons_self
    have ih := lenSub l (m.erase x) hn.2 fun y hy => (List.mem_erase_of_ne (show y ≠ x from fun e => hn.1 (by rw [← e]; exact hy))).mpr (hs y (List.mem_cons_of_mem _ hy))
    rw [List.length_erase_of_mem hx] at ih
    have : 0 < m.length := List.length_pos_of_mem hx
    rw [List.length_cons]
    omega
theorem genOrder_len {l : PL} (hn : (l.map (·.1)).Nodup) (D : Nat) : (genOrder l D).length ≤ l.length := by
  have := lenSub _ _ (genOrder_nodup hn D) fun x hx => genOrder_key hx
  rw [List.length_map] at this
  exact this
theorem genOrder_succ (l : PL) (D : Nat) : genOrder l (D + 1) = genOrder l D ++ genRow l D := by
  unfold genOrder
  rw [List.range_succ, List.flatMap_append]
  simp
theorem rows_bound {l : PL} (hn : (l.map (·.1)).Nodup) (D : Nat) (h : ∀ i, i < D → genRow l i ≠ []) : D ≤ l.length := by
  have key : ∀ D, (∀ i, i < D → genRow l i ≠ []) → D ≤ (genOrder l D).length := by
    intro D
    induction D with
    | zero => intro _; exact Nat.zero_le _
    | succ D ih =>
      intro h
      rw [genOrder_succ, List.length_append]
      have h1 := ih fun i hi => h i (Nat.lt_succ_of_lt hi)
      have h2 : 0 < (genRow l D).length := List.length_pos_iff.mpr (h D (Nat.lt_succ_self _))
      omega
  exact Nat.le_trans (key D h) (genOrder_len hn D)
/-- the pairs are the tree of an order -/
def IsT (l : PL) : Prop := ∃ ns ms : List Int, ns.Nodup ∧ ms.Perm ns ∧ ms.Pairwise (· ≤ ·) ∧ l = ms.map fun k => (k, (placeOf ns.reverse k).1)
theorem revNodup {ns : List Int} (h : ns.Nodup) : ns.reverse.Nodup := by
  unfold List.Nodup at h ⊢
  rw [List.pairwise_reverse]
  exact h.imp fun z e => z e.symm
theorem gen_row {ns ms : List Int} (hn : ns.Nodup) (hm : ∀ k, k ∈ ms ↔ k ∈ ns) : ∀ d, genRow (ms.map fun k => (k, (placeOf ns.reverse k).1)) d = rowAt ns.reverse ms d := by
  have un : ∀ p : Option Int → Bool, underP (ms.map fun k => (k, (placeOf ns.reverse k).1)) p = ms.filter fun k => p (placeOf ns.reverse k).1 := fun p => by
    unfold underP
    rw [List.filter_map, List.map_map]
    have : ((fun x : Int × Option Int => x.1) ∘ fun k => (k, (placeOf ns.reverse k).1)) = id := rfl
    rw [this, List.map_id]
    rfl
  intro d
  induction d with
  | zero =>
    rw [genRow, un]
    refine List.filter_congr fun k hk => ?_
    rw [dep_eq _ (revNodup hn) k (List.mem_reverse.mpr ((hm k).mp hk))]
    cases (placeOf ns.reverse k).1 <;> simp
  | succ d ih =>
    rw [genRow, ih, un]
    refine List.filter_congr fun k hk => ?_
    rw [dep_eq _ (revNodup hn) k (List.mem_reverse.mpr ((hm k).mp hk))]
    cases hp : (placeOf ns.reverse k).1 with
    | none => simp
    | some m =>
      have hmm : m ∈ ms := (hm m).mpr (List.mem_reverse.mp (placeOf_mem hp))
      simp only
      rw [decide_eq_decide, mem_rowAt]
      constructor
      · rintro ⟨_, e⟩
        omega
      · intro e
        exact ⟨hmm, by omega⟩
theorem isT_nodup {l : PL} (h : IsT l) : (l.map (·.1)).Nodup := by
  obtain ⟨ns, ms, h1, h2, h3, rfl⟩ := h
  rw [List.map_map]
  have : ((fun x : Int × Option Int => x.1) ∘ fun k => (k, (placeOf ns.reverse k).1)) = id := rfl
  rw [this, List.map_id]
  exact h2.nodup_iff.mpr h1
theorem pw_lt : ∀ {ms : List Int}, ms.Nodup → ms.Pairwise (· ≤ ·) → ms.Pairwise (· < ·)
  | [], _, _ => List.Pairwise.nil
  | x :: l, hn, h => by
    rw [List.pairwise_cons] at h ⊢
    rw [List.nodup_cons] at hn
    refine ⟨fun y hy => ?_, pw_lt hn.2 h.2⟩
    have h2 := h.1 y hy
    have h3 : x ≠ y := fun e => hn.1 (by rw [e]; exact hy)
    omega
theorem isT_asc {l : PL} (h : IsT l) : (l.map (·.1)).Pairwise (· < ·) := by
  have hn := isT_nodup h
  obtain ⟨ns, ms, h1, h2, h3, rfl⟩ := h
  rw [List.map_map] at hn ⊢
  have : ((fun x : Int × Option Int => x.1) ∘ fun k => (k, (placeOf ns.reverse k).1)) = id := rfl
  rw [this, List.map_id] at hn ⊢
  exact pw_lt hn h3
/-- the program's question -/
theorem tree_iff {l : PL} (ha : (l.map (·.1)).Pairwise (· < ·)) {D : Nat} (h1 : ∀ i, i < D → genRow l i ≠ []) (h2 : genRow l D = []) :
    ((genOrder l D).length = l.length ∧ ∀ x ∈ l, (placeOf (genOrder l D).reverse x.1).1 = x.2) ↔ IsT l := by
  have hn : (l.map (·.1)).Nodup := ha.imp fun z => Int.ne_of_lt z
  constructor
  · rintro ⟨hl, hp⟩
    have hon := genOrder_nodup hn D
    have hperm : (l.map (·.1)).Perm (genOrder l D) := by
      refine (List.perm_ext_iff_of_nodup hn hon).mpr fun k => ⟨fun hk => ?_, fun hk => genOrder_key hk⟩
      refine Classical.byContradiction fun hno => ?_
      have := lenSub (k :: genOrder l D) (l.map (·.1)) (List.nodup_cons.mpr ⟨hno, hon⟩) fun x hx => by
        rcases List.mem_cons.mp hx with e | hx
        · rw [e]; exact hk
        · exact genOrder_key hx
      rw [List.length_cons, List.length_map, hl] at this
      omega
    refine ⟨genOrder l D, l.map (·.1), hon, hperm, ha.imp fun z => Int.le_of_lt z, ?_⟩
    rw [List.map_map]
    conv => lhs; rw [← List.map_id l]
    refine List.map_congr_left fun x hx => ?_
    show x = (x.1, (placeOf (genOrder l D).reverse x.1).1)
    rw [hp x hx]
  · rintro ⟨ns, ms, hns, hpm, hms, rfl⟩
    have hm : ∀ k, k ∈ ms ↔ k ∈ ns := fun k => hpm.mem_iff
    have hmn : ms.Nodup := hpm.nodup_iff.mpr hns
    have hr : ∀ k, k ∈ ms ↔ k ∈ ns.reverse := fun k => (hm k).trans List.mem_reverse.symm
    have hg := gen_row hns hm
    have hD : D = hgt ns.reverse ms := by
      rcases Nat.lt_trichotomy D (hgt ns.reverse ms) with h | h | h
      · exact absurd ((hg D).symm.trans h2) (row_some (revNodup hns) hr h)
      · exact h
      · exact absurd ((hg _).trans (row_none (Nat.le_refl _))) (h1 _ h)
    have ho : genOrder (ms.map fun k => (k, (placeOf ns.reverse k).1)) D = rowOrder ns.reverse ms := by
      unfold genOrder rowOrder
      rw [hD]
      congr 1
      funext d
      exact hg d
    rw [ho]
    refine ⟨by rw [(rowOrder_perm hmn).length_eq, List.length_map], fun x hx => ?_⟩
    obtain ⟨k, hk, rfl⟩ := List.mem_map.mp hx
    show (placeOf (rowOrder ns.reverse ms).reverse k).1 = (placeOf ns.reverse k).1
    rw [rows_rebuild (revNodup hns) hmn hr k hk]
/-! ### the law's own rounds -/
def okParent (ord : List Int) : Option Int → Bool
  | none => true
  | some m => decide (m ∈ ord)
def stepL (ord : List Int) (x : Int × Option Int) : List Int := if (!decide (x.1 ∈ ord) && okParent ord x.2) = true then ord ++ [x.1] else ord
def roundL (l : PL) (ord : List Int) : List Int := l.foldl stepL ord
def roundsL (l : PL) : Nat → List Int
  | 0 => []
  | n + 1 => roundL l (roundsL l n)
theorem step_nodup {ord : List Int} {x : Int × Option Int} (h : ord.Nodup) : (stepL ord x).Nodup := by
  unfold stepL
  split
  · rename_i c
    rw [Bool.and_eq_true] at c
    have hx : x.1 ∉ ord := by simpa using c.1
    rw [List.nodup_append]
    refine ⟨h, List.nodup_cons.mpr ⟨fun z => (nomatch z), List.nodup_nil⟩, fun a ha b hb e => ?_⟩
    rw [List.mem_singleton] at hb
    exact hx (by rw [← hb, ← e]; exact ha)
  · exact h
theorem step_mono {ord : List Int} {x : Int × Option Int} {k : Int} (h : k ∈ ord) : k ∈ stepL ord x := by
  unfold stepL
  split
  · exact List.mem_append_left _ h
  · exact h
theorem fold_mono : ∀ (l : PL) (ord : List Int) (k : Int), k ∈ ord → k ∈ l.foldl stepL ord
  | [], _, _, h => h
  | x :: l, ord, k, h => fold_mono l _ k (step_mono h)
theorem fold_nodup : ∀ (l : PL) (ord : List Int), ord.Nodup → (l.foldl stepL ord).Nodup
  | [], _, h => h
  | x :: l, ord, h => fold_nodup l _ (step_nodup h)
theorem rounds_nodup (l : PL) : ∀ n, (roundsL l n).Nodup
  | 0 => List.nodup_nil
  | n + 1 => fold_nodup l _ (rounds_nodup l n)
theorem step_key {l : PL} {ord : List Int} {x : Int × Option Int} (hx : x ∈ l) (h : ∀ k ∈ ord, k ∈ l.map (·.1)) : ∀ k ∈ stepL ord x, k ∈ l.map (·.1) := by
  intro k hk
  unfold stepL at hk
  split at hk
  · rcases List.mem_append.mp hk with hk | hk
    · exact h k hk
    · rw [List.mem_singleton] at hk
      rw [hk]
      exact List.mem_map.mpr ⟨x, hx, rfl⟩
  · exact h k hk
theorem fold_key {l : PL} : ∀ (q : PL) (ord : List Int), (∀ x ∈ q, x ∈ l) → (∀ k ∈ ord, k ∈ l.map (·.1)) → ∀ k ∈ q.foldl stepL ord, k ∈ l.map (·.1)
  | [], _, _, h => h
  | x :: q, ord, hq, h => fold_key q _ (fun y hy => hq y (List.mem_cons_of_mem _ hy)) (step_key (hq x List.mem_cons_self) h)
theorem rounds_key (l : PL) : ∀ n, ∀ k ∈ roundsL l n, k ∈ l.map (·.1)
  | 0 => fun k hk => nomatch hk
  | n + 1 => fold_key l _ (fun _ h => h) (rounds_key l n)
section
variable {ns ms : List Int} (hn : ns.Nodup) (hm : ∀ k, k ∈ ms ↔ k ∈ ns)
def treeL (ns ms : List Int) : PL := ms.map fun k => (k, (placeOf ns.reverse k).1)
theorem step_later {ord : List Int} {x : Int × Option Int} (hx : x ∈ treeL ns ms) (h : Later ns.reverse ord.reverse) : Later ns.reverse (stepL ord x).reverse := by
  unfold stepL
  split
  · rename_i c
    rw [Bool.and_eq_true] at c
    rw [List.reverse_append]
    show Later ns.reverse (x.1 :: ord.reverse)
    refine ⟨fun m hm' => ?_, h⟩
    obtain ⟨k, hk, rfl⟩ := List.mem_map.mp hx
    have c2 := c.2
    have hm'' : (placeOf ns.reverse k).1 = some m := hm'
    show m ∈ ord.reverse
    rw [show ((k, (placeOf ns.reverse k).1) : Int × Option Int).2 = some m from hm''] at c2
    exact List.mem_reverse.mpr (of_decide_eq_true c2)
  · exact h
theorem fold_later : ∀ (q : PL) (ord : List Int), (∀ x ∈ q, x ∈ treeL ns ms) → Later ns.reverse ord.reverse → Later ns.reverse (q.foldl stepL ord).reverse
  | [], _, _, h => h
  | x :: q, ord, hq, h => fold_later q _ (fun y hy => hq y (List.mem_cons_of_mem _ hy)) (step_later (hq x List.mem_cons_self) h)
theorem rounds_later : ∀ n, Later ns.reverse (roundsL (treeL ns ms) n).reverse
  | 0 => trivial
  | n + 1 => fold_later _ _ (fun _ h => h) (rounds_later n)
theorem fold_takes : ∀ (q : PL) (ord : List Int) (k : Int) (o : Option Int), (k, o) ∈ q → okParent ord o = true → k ∈ q.foldl stepL ord
  | [], _, _, _, h, _ => nomatch h
  | x :: q, ord, k, o, h, ho => by
    show k ∈ q.foldl stepL (stepL ord x)
    rcases List.mem_cons.mp h with e | h
    · refine fold_mono q _ k ?_
      rw [← e]
      unfold stepL
      by_cases hk : k ∈ ord
      · split
        · exact List.mem_append_left _ hk
        · exact hk
      · rw [if_pos (by rw [Bool.and_eq_true]; exact ⟨by simpa using hk, ho⟩)]
        exact List.mem_append_right _ List.mem_cons_self
    · refine fold_takes q _ k o h ?_
      cases o with
      | none => rfl
      | some m => exact decide_eq_true (step_mono (of_decide_eq_true ho))
include hn hm
theorem rounds_dep : ∀ (n : Nat) (k : Int), k ∈ ms → dep ns.reverse k < n → k ∈ roundsL (treeL ns ms) n
  | 0, _, _, h => absurd h (Nat.not_lt_zero _)
  | n + 1, k, hk, h => by
    refine fold_takes _ _ k (placeOf ns.reverse k).1 (List.mem_map.mpr ⟨k, hk, rfl⟩) ?_
    have hd := dep_eq _ (revNodup hn) k (List.mem_reverse.mpr ((hm k).mp hk))
    cases hp : (placeOf ns.reverse k).1 with
    | none => rfl
    | some m =>
      rw [hp] at hd
      simp only at hd
      exact decide_eq_true (rounds_dep n m ((hm m).mpr (List.mem_reverse.mp (placeOf_mem hp))) (by omega))
end
theorem dep_lt : ∀ q : List Int, q.Nodup → ∀ k ∈ q, dep q k < q.length := by
  intro q
  induction q with
  | nil => intro _ k hk; exact nomatch hk
  | cons x q ih =>
    intro hn k hk
    rw [List.nodup_cons] at hn
    rw [List.length_cons]
    by_cases e : k = x
    · subst e
      rw [dep, if_pos rfl]
      cases hp : (placeR q k).1 with
      | none => simp
      | some m =>
        have := ih hn.2 m (placeR_mem q k m hp)
        simp only
        omega
    · rw [dep, if_neg e]
      rcases List.mem_cons.mp hk with z | z
      · exact absurd z e
      · have := ih hn.2 k z
        omega
/-- the law's question -/
theorem law_iff {l : PL} {n : Nat} (hl : n = l.length) {ms' : List Int} (hp : ms'.Perm (roundsL l n)) (hs : ms'.Pairwise (· ≤ ·)) :
    (ms'.map fun k => (k, (placeOf (roundsL l n).reverse k).1)) = l ↔ IsT l := by
  constructor
  · intro e
    exact ⟨roundsL l n, ms', rounds_nodup l n, hp, hs, e.symm⟩
  · rintro ⟨ns, ms, hns, hpm, hms, rfl⟩
    have hm : ∀ k, k ∈ ms ↔ k ∈ ns := fun k => hpm.mem_iff
    have hmn : ms.Nodup := hpm.nodup_iff.mpr hns
    have e0 : (ms.map fun k => (k, (placeOf ns.reverse k).1)) = treeL ns ms := rfl
    rw [e0] at hp ⊢
    rw [e0] at hl
    have hln : n = ns.length := by
      rw [hl]
      unfold treeL
      rw [List.length_map, hpm.length_eq]
    have hall : ∀ k, k ∈ roundsL (treeL ns ms) n ↔ k ∈ ms := fun k => by
      constructor
      · intro h
        have := rounds_key _ n k h
        unfold treeL at this
        rw [List.map_map] at this
        have e : ((fun x : Int × Option Int => x.1) ∘ fun k => (k, (placeOf ns.reverse k).1)) = id := rfl
        rw [e, List.map_id] at this
        exact this
      · intro h
        refine rounds_dep hns hm n k h ?_
        have := dep_lt ns.reverse (revNodup hns) k (List.mem_reverse.mpr ((hm k).mp h))
        rw [List.length_reverse] at this
        omega
    have hrn := rounds_nodup (treeL ns ms) n
    have hperm : (roundsL (treeL ns ms) n).Perm ms := (List.perm_ext_iff_of_nodup hrn hmn).mpr hall
    have hms' : ms' = ms := (hp.trans hperm).eq_of_pairwise (fun _ _ _ _ => Int.le_antisymm) hs hms
    rw [hms']
    obtain ⟨_, h⟩ := rebuild ns.reverse (revNodup hns) (roundsL (treeL ns ms) n).reverse (revNodup hrn) (fun x hx => List.mem_reverse.mpr ((hm x).mp ((hall x).mp (List.mem_reverse.mp hx)))) (rounds_later n)
    show _ = ms.map _
    refine List.map_congr_left fun k hk => ?_
    rw [h k (List.mem_reverse.mpr ((hall k).mpr hk))]
end BstM
/-! Who is above whom, from the order alone. Plain Lean. -/
namespace BstM
/-- what a new key would meet, the last inserted first -/
def seen : List Int → Int → List Int
  | [], _ => []
  | x :: r, z => if placeR r z = placeR r x then x :: seen r z else seen r z
theorem seen_eq : ∀ (r : List Int), r.Nodup → ∀ z : Int, z ∉ r → restUp r (placeR r z).1 = seen r z
  | [], _, _, _ => rfl
  | x :: r, hn, z, hz => by
    rw [List.nodup_cons] at hn
    have hzr : z ∉ r := fun h => hz (List.mem_cons_of_mem _ h)
    have ih := seen_eq r hn.2 z hzr
    have tail : ∀ m ∈ r, pathUp (x :: r) m = pathUp r m := fun m hm => by
      have hne : m ≠ x := fun e => hn.1 (by rw [← e]; exact hm)
      rw [pathUp, if_neg hne]
    unfold seen
    by_cases h : placeR r z = placeR r x
    · rw [if_pos h, placeR, if_pos h]
      show pathUp (x :: r) x = _
      rw [pathUp, if_pos rfl, ← ih, h]
      rfl
    · rw [if_neg h, placeR, if_neg h, ← ih]
      cases hp : (placeR r z).1 with
      | none => rfl
      | some m =>
        show pathUp (x :: r) m = pathUp r m
        exact tail m (placeR_mem r z m hp)
theorem seen_mem : ∀ (r : List Int) (z a : Int), a ∈ seen r z → a ∈ r
  | [], _, _, h => nomatch h
  | x :: r, z, a, h => by
    unfold seen at h
    split at h
    · rcases List.mem_cons.mp h with e | h
      · rw [e]; exact List.mem_cons_self
      · exact List.mem_cons_of_mem _ (seen_mem r z a h)
    · exact List.mem_cons_of_mem _ (seen_mem r z a h)
theorem seen_sub : ∀ (r : List Int) (z : Int), (seen r z).Sublist r
  | [], _ => List.Sublist.refl _
  | x :: r, z => by
    unfold seen
    split
    · exact (seen_sub r z).cons₂ x
    · exact (seen_sub r z).cons x
/-- the last inserted key's path -/
theorem pathUp_head (r : List Int) (hn : r.Nodup) (x : Int) (hx : x ∉ r) : pathUp (x :: r) x = x :: seen r x := by
  rw [pathUp, if_pos rfl, ← seen_eq r hn x hx]
  rfl
theorem pathUp_tail {r : List Int} {x k : Int} (h : k ≠ x) : pathUp (x :: r) k = pathUp r k := by rw [pathUp, if_neg h]
theorem pathUp_sub : ∀ (r : List Int), r.Nodup → ∀ k : Int, (pathUp r k).Sublist r
  | [], _, _ => List.Sublist.refl _
  | x :: r, hn, k => by
    rw [List.nodup_cons] at hn
    by_cases e : k = x
    · subst e
      rw [pathUp_head r hn.2 k hn.1]
      exact (seen_sub r k).cons₂ k
    · rw [pathUp_tail e]
      exact (pathUp_sub r hn.2 k).cons x
/-- the first key of an order from lo to hi -/
def firstIn (ns : List Int) (lo hi : Int) : Option Int := ns.find? fun k => decide (lo ≤ k) && decide (k ≤ hi)
theorem firstIn_snoc (ns : List Int) (x lo hi : Int) : firstIn (ns ++ [x]) lo hi = (firstIn ns lo hi).or (if lo ≤ x ∧ x ≤ hi then some x else none) := by
  unfold firstIn
  rw [List.find?_append]
  congr 1
  by_cases h : lo ≤ x ∧ x ≤ hi
  · rw [if_pos h, List.find?_cons_of_pos (by rw [Bool.and_eq_true]; exact ⟨decide_eq_true h.1, decide_eq_true h.2⟩)]
  · rw [if_neg h, List.find?_cons_of_neg (by rw [Bool.and_eq_true]; exact fun z => h ⟨of_decide_eq_true z.1, of_decide_eq_true z.2⟩)]
    rfl
theorem firstIn_none {ns : List Int} {lo hi : Int} : firstIn ns lo hi = none ↔ ∀ y ∈ ns, ¬ (lo ≤ y ∧ y ≤ hi) := by
  unfold firstIn
  rw [List.find?_eq_none]
  refine forall_congr' fun y => forall_congr' fun _ => ?_
  rw [Bool.and_eq_true, decide_eq_true_iff, decide_eq_true_iff]
theorem firstIn_mem {ns : List Int} {lo hi a : Int} (h : firstIn ns lo hi = some a) : a ∈ ns ∧ lo ≤ a ∧ a ≤ hi := by
  unfold firstIn at h
  have h2 := List.find?_some h
  rw [Bool.and_eq_true, decide_eq_true_iff, decide_eq_true_iff] at h2
  exact ⟨List.mem_of_find?_eq_some h, h2⟩
theorem firstIn_old {ns : List Int} {x lo hi y : Int} (hy : y ∈ ns) (h1 : lo ≤ y) (h2 : y ≤ hi) : firstIn (ns ++ [x]) lo hi = firstIn ns lo hi := by
  rw [firstIn_snoc]
  cases h : firstIn ns lo hi with
  | none => exact absurd ⟨h1, h2⟩ (firstIn_none.mp h y hy)
  | some m => rfl
/-- both bounds, whichever is the less -/
def firstB (ns : List Int) (a b : Int) : Option Int := firstIn ns (min a b) (max a b)
theorem seen_iff : ∀ (r : List Int), r.Nodup → ∀ (z a : Int), z ∉ r → a ∈ r → (a ∈ seen r z ↔ firstB r.reverse a z = some a)
  | [], _, _, _, _, h => nomatch h
  | x :: r, hn, z, a, hz, ha => by
    rw [List.nodup_cons] at hn
    have hzr : z ∉ r := fun h => hz (List.mem_cons_of_mem _ h)
    have hzx : z ≠ x := fun h => hz (by rw [h]; exact List.mem_cons_self)
    unfold firstB
    rw [List.reverse_cons]
    by_cases e : a = x
    · subst e
      have hno : a ∉ seen r z := fun h => hn.1 (seen_mem r z a h)
      have key : (placeR r z = placeR r a) ↔ firstIn r.reverse (min a z) (max a z) = none := by
        rw [placeR_eq_iff r hn.2 z a hzr hn.1, firstIn_none]
        constructor
        · intro h y hy hb
          have hyr := List.mem_reverse.mp hy
          have h1 := h y hyr
          have h2 : y ≠ a := fun e => hn.1 (by rw [← e]; exact hyr)
          have h3 : y ≠ z := fun e => hzr (by rw [← e]; exact hyr)
          unfold btw at h1
          omega
        · intro h y hy hb
          refine h y (List.mem_reverse.mpr hy) ?_
          unfold btw at hb
          omega
      rw [firstIn_snoc, if_pos (by omega)]
      unfold seen
      by_cases h : placeR r z = placeR r a
      · rw [if_pos h, key.mp h]
        simp
      · rw [if_neg h]
        cases hf : firstIn r.reverse (min a z) (max a z) with
        | none => exact absurd (key.mpr hf) h
        | some m =>
          constructor
          · intro h2; exact absurd h2 hno
          · intro h2
            have : m = a := Option.some.inj h2
            rw [this] at hf
            exact absurd (List.mem_reverse.mp (firstIn_mem hf).1) hn.1
    · have har : a ∈ r := by
        rcases List.mem_cons.mp ha with h | h
        · exact absurd h e
        · exact h
      rw [firstIn_old (List.mem_reverse.mpr har) (by omega) (by omega)]
      have ih := seen_iff r hn.2 z a hzr har
      unfold firstB at ih
      rw [← ih]
      show a ∈ (if placeR r z = placeR r x then x :: seen r z else seen r z) ↔ _
      split
      · constructor
        · intro h
          rcases List.mem_cons.mp h with h | h
          · exact absurd h e
          · exact h
        · intro h; exact List.mem_cons_of_mem _ h
      · exact Iff.rfl
/-- above: the first key between them -/
theorem above_iff : ∀ (r : List Int), r.Nodup → ∀ a b : Int, a ∈ r → b ∈ r → a ≠ b → (a ∈ pathUp r b ↔ firstB r.reverse a b = some a)
  | [], _, _, _, h, _, _ => nomatch h
  | x :: r, hn, a, b, ha, hb, hne => by
    rw [List.nodup_cons] at hn
    by_cases eb : b = x
    · subst eb
      have har : a ∈ r := by
        rcases List.mem_cons.mp ha with h | h
        · exact absurd h hne
        · exact h
      rw [pathUp_head r hn.2 b hn.1]
      have := seen_iff r hn.2 b a hn.1 har
      unfold firstB at this ⊢
      rw [List.reverse_cons, firstIn_old (List.mem_reverse.mpr har) (by omega) (by omega), ← this]
      constructor
      · intro h
        rcases List.mem_cons.mp h with h | h
        · exact absurd h hne
        · exact h
      · intro h; exact List.mem_cons_of_mem _ h
    · have hbr : b ∈ r := by
        rcases List.mem_cons.mp hb with h | h
        · exact absurd h eb
        · exact h
      rw [pathUp_tail eb]
      unfold firstB
      rw [List.reverse_cons, firstIn_old (List.mem_reverse.mpr hbr) (by omega) (by omega)]
      by_cases ea : a = x
      · subst ea
        constructor
        · intro h; exact absurd (pathUp_mem r b a h) hn.1
        · intro h; exact absurd (List.mem_reverse.mp (firstIn_mem h).1) hn.1
      · have har : a ∈ r := by
          rcases List.mem_cons.mp ha with h | h
          · exact absurd h ea
          · exact h
        exact above_iff r hn.2 a b har hbr hne
end BstM
/-! lists of ints as data: ==, != -/
namespace DatI
open PySem PySem.Spec PyProof.Rows L2
theorem canLay_ints : ∀ ns : List Int, PyData.canLayAll0 (ns.map PyData.int) = true
  | [] => by simp [PyData.canLayAll0]
  | n :: ns => by
    rw [List.map_cons]
    simp [PyData.canLayAll0, PyData.canLay0, canLay_ints ns]
theorem depth_ints : ∀ ns : List Int, PyData.depthAll (ns.map PyData.int) = 0
  | [] => by simp [PyData.depthAll]
  | n :: ns => by
    rw [List.map_cons]
    simp [PyData.depthAll, PyData.depth, depth_ints ns]
theorem shaped_ints (ns : List Int) : SeqAt.shaped (.list (ns.map PyData.int)) = true := by
  unfold SeqAt.shaped
  rw [Bool.and_eq_true]
  refine ⟨?_, ?_⟩
  · rw [PyData.canLay0]
    exact canLay_ints ns
  · rw [PyData.depth, depth_ints]
    rfl
theorem eqvAll_ints : ∀ ns ms : List Int, PyData.eqvAll (ns.map PyData.int) (ms.map PyData.int) = decide (ns = ms)
  | [], [] => by simp [PyData.eqvAll]
  | [], m :: ms => by simp [PyData.eqvAll]
  | n :: ns, [] => by simp [PyData.eqvAll]
  | n :: ns, m :: ms => by
    rw [List.map_cons, List.map_cons, PyData.eqvAll, eqvAll_ints ns ms, PyData.eqv]
    by_cases h : n = m
    · by_cases h2 : ns = ms <;> simp [h, h2]
    · simp [h]
theorem eqv_ints (ns ms : List Int) : PyData.eqv (.list (ns.map PyData.int)) (.list (ms.map PyData.int)) = decide (ns = ms) := by
  rw [PyData.eqv, eqvAll_ints]
theorem dpAll_ints {K : PySem.W.Frag} {H : Hp} : ∀ ns : List Int, DpAll K H (ns.map V.int) (ns.map PyData.int)
  | [] => .nil
  | n :: ns => .cons (.int n) (dpAll_ints ns)
theorem dp_ints {K : PySem.W.Frag} {H : Hp} {a : Addr} {ns : List Int} (h : SqL K H a (ns.map V.int)) : Dp K H (.ref a) (.list (ns.map PyData.int)) := .lst h (dpAll_ints ns)
end DatI
namespace T1
open PySem PySem.Spec PyProof.Rows L2 TK BstM DatI
section
variable {P : Program} {w : World} {K : PySem.W.Frag} {mg : Str → Option Value} {base : Heap}
/-- a def of the text stands at the module's top -/
def Has (K : PySem.W.Frag) (mg : Str → Option Value) (x : Str) (st : Stmt) : Prop := ∃ f fd, Fun K x x st f fd ∧ mg x = some (.ref f)
/-- a def that keeps a promise -/
structure Ok (P : Program) (w : World) (K : PySem.W.Frag) (mg : Str → Option Value) (base : Heap) (k : Nat) (x : Str) (ps : List Str) (sp : Sp) (f : Addr) (fd : FuncData) : Prop where
  ok : FnOk P w K mg base CX0 k f fd ps sp
  g : mg x = some (.ref f)
  kp : PySem.W.keepIn K (.ref f) = true
  b : Binds K fd ps []
def OkE (P : Program) (w : World) (K : PySem.W.Frag) (mg : Str → Option Value) (base : Heap) (k : Nat) (x : Str) (ps : List Str) (sp : Sp) : Prop := ∃ f fd, Ok P w K mg base k x ps sp f fd
theorem Has.ok {x : Str} {st : Stmt} {N ps : List Str} {k : Nat} {sp : Sp} (h : Has K mg x st) (S : FnScope N ps (defScope st))
    (hb : ∀ (kV doc pm : Value) (an : Option Addr) (cdv ct : Value) (us : List Value), us.length = ps.length → bindArgs (PySem.W.fnOf x x (defArgs st) (defBody st) (defScope st) .none kV doc pm an cdv ct) ⟨us, []⟩ = pure (ps.zip us))
    (len : ∀ vs H Q E, sp vs H Q E → vs.length = ps.length)
    (hbody : ∀ (f : Addr) (cdv : Value) (A : Around) (outer : List Env) (s : Shared) (H : Hp) (vs : List V) (Q : VK) (E : XK), Room k (A.deeper (envOfC x (defScope st) s.heap.objs.size f cdv)) → sp vs H Q E →
      ∃ t, PSs (cxOf CX0 P w K mg base N x (defScope st) f cdv A outer s H E).nox (defBody st) t ∧ t { nx := fun _ H' => Q .non H', rt := Q } (start N vs) H) : OkE P w K mg base (k + 1) x ps sp := by
  obtain ⟨f, fd, F, g⟩ := h
  exact ⟨f, fd, F.ok S len (fun cdv => hbody f cdv), g, F.kp, F.binds hb⟩
theorem OkE.imp {k : Nat} {x : Str} {ps : List Str} {sp sp' : Sp} (O : OkE P w K mg base k x ps sp) (h : ∀ vs H Q E, sp' vs H Q E → sp vs H Q E) : OkE P w K mg base k x ps sp' := by
  obtain ⟨f, fd, O⟩ := O
  exact ⟨f, fd, O.ok.imp h, O.g, O.kp, O.b⟩
theorem pe_callO {X : Cx} {j k : Nat} {x : Str} {ps : List Str} {sp : Sp} {f : Addr} {fd : FuncData} {e : Expr} {es : List Expr} {t : TA} {p pos : Pos} (O : Ok X.prog X.w X.K X.mg X.base j x ps sp f fd) (hr : Room k X.A) (ha : PA X (e :: es) t) (hk : j ≤ k := by decide) (hg : Gl X x := by rfl)
    (hdb : (x == ("__debug__" : Str)) = false := by decide) (he : starEach (e :: es) X.env = (false, eval e X.env) :: starEach es X.env := by rfl) (hpl : (backTo pos (starEach es X.env)).any (·.1) = false := by rfl) :
    PE X (.Call (.Name x p) (e :: es) [] pos) (tCall sp [] (fun _ _ _ => False) t) := pe_call O.ok (hr.mono hk) hg O.g O.kp O.b .nil pass0 ha hdb he hpl
structure Names0 (mg : Str → Option Value) : Prop where
  isi : mg "isinstance" = none
  int : mg "int" = none
  bool : mg "bool" = none
  list : mg "list" = none
  len : mg "len" = none
  set : mg "set" = none
  enum : mg "enumerate" = none
  sorted : mg "sorted" = none
  tuple : mg "tuple" = none
  abs : mg "abs" = none
  range : mg "range" = none
  min : mg "min" = none
  max : mg "max" = none
  all : mg "all" = none
  zip : mg "zip" = none
  repr : mg "repr" = none
  sum : mg "sum" = none
  reversed : mg "reversed" = none
  dict : mg "dict" = none
structure Names (mg : Str → Option Value) : Prop extends Names0 mg where
  maxKeys : ∃ t, mg "MAX_KEYS" = some (.int 40 t)
  maxKey : ∃ t, mg "MAX_KEY" = some (.int (10 ^ 18) t)
theorem same_upd {H : Hp} {p : Addr} {o : HO} (h : H p = none) : Same H (upd H p o) := fun b x e => by
  rw [upd_ne (ne_of_none e h)]
  exact e
/-- what is new in H stays apart from what H0 had -/
theorem same_put {H0 H : Hp} {p : Addr} {o : HO} (s : Same H0 H) (h : H0 p = none) : Same H0 (upd H p o) := fun b x e => by
  rw [upd_ne (ne_of_none e h)]
  exact s _ _ e
theorem same_but {H0 H H' : Hp} {p : Addr} (s : Same H0 H) (h : H0 p = none) (k : ∀ c, c ≠ p → H' c = H c) : Same H0 H' := fun b x e => by
  rw [k b (ne_of_none e h)]
  exact s _ _ e
def InR (i : Int) : Prop := -(10 ^ 18) ≤ i ∧ i ≤ 10 ^ 18
instance (i : Int) : Decidable (InR i) := by unfold InR; infer_instance
/-- is_key's answer of a value -/
inductive KeyAns (K : PySem.W.Frag) (H : Hp) : V → Bool → Prop where
  | int (i : Int) : KeyAns K H (.int i) (decide (InR i))
  | bl (c : Bool) : KeyAns K H (.bl c) false
  | other {x : V} {t : String} (h : TyX K H x (.type t)) (k : kitB t "int" = some false) : KeyAns K H x false
/-- is_within's answer of a value -/
inductive WithAns (K : PySem.W.Frag) (H : Hp) (lo hi : Int) : V → Bool → Prop where
  | int (i : Int) : WithAns K H lo hi (.int i) (decide (lo ≤ i ∧ i ≤ hi))
  | bl (c : Bool) : WithAns K H lo hi (.bl c) false
  | other {x : V} {t : String} (h : TyX K H x (.type t)) (k : kitB t "int" = some false) : WithAns K H lo hi x false
theorem KeyAns.within {K : PySem.W.Frag} {H : Hp} {x : V} {b : Bool} (h : KeyAns K H x b) : WithAns K H (-(10 ^ 18)) (10 ^ 18) x b := by
  cases h with
  | int i =>
    have : decide (InR i) = decide (-(10 ^ 18) ≤ i ∧ i ≤ 10 ^ 18) := decide_eq_decide.mpr Iff.rfl
    rw [this]
    exact .int i
  | bl c => exact .bl c
  | other h k => exact .other h k
def spWithin (K : PySem.W.Frag) : Sp := fun vs H Q _ => ∃ x lo hi b, vs = [x, .int lo, .int hi] ∧ WithAns K H lo hi x b ∧ Q (.bl b) H
def spIsKey (K : PySem.W.Frag) : Sp := fun vs H Q _ => ∃ x b, vs = [x] ∧ KeyAns K H x b ∧ Q (.bl b) H
structure Order (ns : List Int) : Prop where
  nd : ns.Nodup
  rng : ∀ k ∈ ns, InR k
  len : ns.length ≤ 40
def spCheck (K : PySem.W.Frag) : Sp := fun vs H Q _ => ∃ (a : Addr) (ns : List Int), vs = [.ref a] ∧ H a = some (.lst (ns.map V.int)) ∧ Order ns ∧ ∀ H', Same H H' → Q .non H'
/-- the parents, the last inserted key first in the list -/
def parsR : List Int → List (Key × V)
  | [] => []
  | x :: r => parsR r ++ [(Sum.inl x, oV (placeR r x).1)]
theorem parsR_keys : ∀ r : List Int, (parsR r).map (·.1) = (r.map Sum.inl).reverse
  | [] => rfl
  | x :: r => by
    unfold parsR
    rw [List.map_append, parsR_keys r]
    simp
theorem parsR_len (r : List Int) : (parsR r).length = r.length := by
  have := congrArg List.length (parsR_keys r)
  simpa using this
theorem parsR_new {r : List Int} {x : Int} (h : x ∉ r) : valV (parsR r) (Sum.inl x) = none := by
  cases e : valV (parsR r) (Sum.inl x) with
  | none => rfl
  | some v =>
    have := valV_in e
    rw [parsR_keys] at this
    rw [List.mem_reverse, List.mem_map] at this
    obtain ⟨y, hy, ey⟩ := this
    cases ey
    exact absurd hy h
/-- the parent of each key in the tree of the order -/
def parentIn : List Int → Int → Option Int
  | [], _ => none
  | x :: r, k => if k = x then (placeR r x).1 else parentIn r k
theorem parsR_val : ∀ {r : List Int} {k : Int}, r.Nodup → k ∈ r → valV (parsR r) (Sum.inl k) = some (oV (parentIn r k))
  | [], k, _, h => nomatch h
  | x :: r, k, hn, h => by
    rw [List.nodup_cons] at hn
    unfold parsR parentIn
    rw [valV_snoc _ _ _ _ (parsR_new hn.1)]
    by_cases e : k = x
    · subst e
      rw [if_pos rfl, if_pos rfl]
    · rw [if_neg (fun z => e (Sum.inl.inj z)), if_neg e]
      exact parsR_val hn.2 (by
        rcases List.mem_cons.mp h with z | z
        · exact absurd z e
        · exact z)
theorem take_rev {ns : List Int} {i : Nat} (h : i < ns.length) : (ns.take (i + 1)).reverse = ns[i] :: (ns.take i).reverse := by
  rw [List.take_succ_eq_append_getElem h, List.reverse_append]
  rfl
theorem nodup_take {ns : List Int} (h : ns.Nodup) (i : Nat) : (ns.take i).reverse.Nodup := by
  have h2 : (ns.take i).Nodup := h.sublist (List.take_sublist _ _)
  unfold List.Nodup at h2 ⊢
  rw [List.pairwise_reverse]
  exact h2.imp fun z e => z e.symm
theorem not_in_take {ns : List Int} (h : ns.Nodup) {i : Nat} (hi : i < ns.length) : ns[i] ∉ (ns.take i).reverse := fun z => by
  obtain ⟨j, hj, ej⟩ := List.mem_take_iff_getElem.mp (List.mem_reverse.mp z)
  have hj' : j < ns.length := by omega
  have := (List.getElem_inj h).mp (show ns[j] = ns[i] from ej)
  omega
def spPar (K : PySem.W.Frag) : Sp := fun vs H Q _ => ∃ (a : Addr) (ns : List Int), vs = [.ref a] ∧ SqL K H a (ns.map V.int) ∧ ns.Nodup ∧ ns.length ≤ 40 ∧ ∀ H' p, Same H H' → H p = none → H' p = some (.dK (parsR ns.reverse)) → Q (.ref p) H'
/-- the tuples (key, parent) at these addresses -/
abbrev PairsAt (H : Hp) : List Addr → List (Int × Option Int) → Prop := Paired fun q x => H q = some (.tup [.int x.1, oV x.2])
theorem PairsAt.keep {H H' : Hp} {as : List Addr} {l : List (Int × Option Int)} (h : PairsAt H as l) (s : Same H H') : PairsAt H' as l := Paired.mapP h fun _ _ z => s _ _ z
def TreeAt (H : Hp) (p : Addr) (l : List (Int × Option Int)) : Prop := ∃ as : List Addr, H p = some (.tup (as.map V.ref)) ∧ PairsAt H as l
theorem TreeAt.keep {H H' : Hp} {p : Addr} {l : List (Int × Option Int)} (h : TreeAt H p l) (s : Same H H') : TreeAt H' p l := by
  obtain ⟨as, h1, h2⟩ := h
  exact ⟨as, s _ _ h1, h2.keep s⟩
/-- the keys in ascending order -/
def Asc (ms ns : List Int) : Prop := ms.Perm ns ∧ ms.Pairwise (· ≤ ·)
def pairsOf (ns ms : List Int) : List (Int × Option Int) := ms.map fun k => (k, parentIn ns.reverse k)
def spBuild (K : PySem.W.Frag) : Sp := fun vs H Q _ => ∃ (a : Addr) (ns : List Int), vs = [.ref a] ∧ H a = some (.lst (ns.map V.int)) ∧ Order ns ∧ ∀ H' p ms, Same H H' → H p = none → Asc ms ns → TreeAt H' p (pairsOf ns ms) → Q (.ref p) H'
theorem paired_get {α β : Type} {F : α → β → Prop} : ∀ {l : List α} {m : List β}, Paired F l m → ∀ {i : Nat} {x : α}, l[i]? = some x → ∃ y, m[i]? = some y ∧ F x y
  | _, _, .nil, i, x, h => by simp at h
  | _, _, .cons (a := a) (b := b) r t, 0, x, h => by
    simp at h
    subst h
    exact ⟨_, rfl, r⟩
  | _, _, .cons r t, i + 1, x, h => by
    simp at h
    obtain ⟨y, h1, h2⟩ := paired_get t h
    exact ⟨y, by simpa using h1, h2⟩
theorem paired_get2 {α β : Type} {F : α → β → Prop} : ∀ {l : List α} {m : List β}, Paired F l m → ∀ {i : Nat} {y : β}, m[i]? = some y → ∃ x, l[i]? = some x ∧ F x y
  | _, _, .nil, i, x, h => by simp at h
  | _, _, .cons r t, 0, x, h => by
    simp at h
    subst h
    exact ⟨_, rfl, r⟩
  | _, _, .cons r t, i + 1, x, h => by
    simp at h
    obtain ⟨y, h1, h2⟩ := paired_get2 t h
    exact ⟨y, by simpa using h1, h2⟩
/-- pairs that have the form of a tree -/
structure Form (l : List (Int × Option Int)) : Prop where
  asc : (l.map (·.1)).Pairwise (· < ·)
  key : ∀ x ∈ l, InR x.1
  par : ∀ x ∈ l, ∀ m, x.2 = some m → InR m
  len : l.length ≤ 40
/-- the keys whose parent is one of these -/
def under (l : List (Int × Option Int)) (pv : List V) : List Int := (l.filter fun x => inV (oV x.2) pv).map (·.1)
theorem flat_o (o : Option Int) : flatV (oV o) = true := by cases o <;> rfl
theorem take_snocA {α : Type} {l : List α} {i : Nat} (h : i < l.length) : l.take (i + 1) = l.take i ++ [l[i]] := List.take_succ_eq_append_getElem h
def spUnder : Sp := fun vs H Q _ => ∃ (p q : Addr) (l : List (Int × Option Int)) (pv : List V), vs = [.ref p, .ref q] ∧ TreeAt H p l ∧ l.length ≤ 40 ∧ H q = some (.lst pv) ∧ pv.all flatV = true ∧ ∀ H' d, Same H H' → H d = none → H' d = some (.lst ((under l pv).map V.int)) → Q (.ref d) H'
theorem parentIn_eq : ∀ (r : List Int) (k : Int), parentIn r k = (BstM.placeOf r k).1
  | [], k => rfl
  | x :: r, k => by
    unfold parentIn BstM.placeOf
    by_cases e : k = x
    · rw [if_pos e, if_pos e]
    · rw [if_neg e, if_neg e]
      exact parentIn_eq r k
theorem rev_nodup {ns : List Int} (h : ns.Nodup) : ns.reverse.Nodup := by
  have := nodup_take h ns.length
  rw [List.take_length] at this
  exact this
theorem under_pairs (ns ms : List Int) (pl : List V) : under (pairsOf ns ms) pl = ms.filter fun k => inV (oV (parentIn ns.reverse k)) pl := by
  unfold under pairsOf
  rw [List.filter_map, List.map_map]
  have : ((fun x : Int × Option Int => x.1) ∘ fun k => (k, parentIn ns.reverse k)) = id := rfl
  rw [this, List.map_id]
  rfl
theorem inV_none (o : Option Int) : inV (oV o) [.non] = decide (o = none) := by cases o <;> rfl
theorem inV_ints (o : Option Int) (ks : List Int) : inV (oV o) (ks.map V.int) = match o with | none => false | some m => decide (m ∈ ks) := by
  unfold inV
  rw [List.any_map]
  cases o with
  | none =>
    rw [List.any_eq_false]
    intro x _
    simp [oV, eqV]
  | some m =>
    rw [Bool.eq_iff_iff, List.any_eq_true]
    simp only [decide_eq_true_eq]
    constructor
    · rintro ⟨x, hx, e⟩
      have e' : (x == m) = true := e
      rw [beq_iff_eq] at e'
      rw [← e']
      exact hx
    · intro h
      refine ⟨m, h, ?_⟩
      show (m == m) = true
      exact beq_self_eq_true m
theorem row_zero {ns ms : List Int} (ho : ns.Nodup) (hm : ∀ k, k ∈ ms ↔ k ∈ ns) : under (pairsOf ns ms) [.non] = rowAt ns.reverse ms 0 := by
  rw [under_pairs]
  unfold rowAt
  refine List.filter_congr fun k hk => ?_
  have hr : k ∈ ns.reverse := List.mem_reverse.mpr ((hm k).mp hk)
  rw [inV_none, parentIn_eq, dep_eq _ (rev_nodup ho) k hr]
  cases (BstM.placeOf ns.reverse k).1 <;> simp
theorem row_succ {ns ms : List Int} (ho : ns.Nodup) (hm : ∀ k, k ∈ ms ↔ k ∈ ns) (d : Nat) : under (pairsOf ns ms) ((rowAt ns.reverse ms d).map V.int) = rowAt ns.reverse ms (d + 1) := by
  rw [under_pairs]
  show _ = ms.filter _
  refine List.filter_congr fun k hk => ?_
  have hr : k ∈ ns.reverse := List.mem_reverse.mpr ((hm k).mp hk)
  rw [inV_ints, parentIn_eq, dep_eq _ (rev_nodup ho) k hr]
  cases hp : (BstM.placeOf ns.reverse k).1 with
  | none => simp
  | some m =>
    have hmm : m ∈ ms := (hm m).mpr (List.mem_reverse.mp (placeOf_mem hp))
    simp only
    rw [decide_eq_decide, mem_rowAt]
    constructor
    · rintro ⟨_, e⟩
      omega
    · intro e
      exact ⟨hmm, by omega⟩
/-- lists of ints at these addresses -/
abbrev ListsAt (H : Hp) : List Addr → List (List Int) → Prop := Paired fun q x => H q = some (.lst (x.map V.int))
theorem ListsAt.keep {H H' : Hp} {as : List Addr} {l : List (List Int)} (h : ListsAt H as l) (s : Same H H') : ListsAt H' as l := Paired.mapP h fun _ _ z => s _ _ z
def rowsL (ns ms : List Int) (d : Nat) : List (List Int) := (List.range d).map (rowAt ns.reverse ms)
theorem asc_mem {ms ns : List Int} (h : Asc ms ns) : ∀ k, k ∈ ms ↔ k ∈ ns := fun k => h.1.mem_iff
/-- the tree of an order stands at p -/
def TreeOf (H : Hp) (p : Addr) (ns ms : List Int) : Prop := TreeAt H p (pairsOf ns ms) ∧ Order ns ∧ Asc ms ns
theorem TreeOf.keep {H H' : Hp} {p : Addr} {ns ms : List Int} (h : TreeOf H p ns ms) (s : Same H H') : TreeOf H' p ns ms := ⟨h.1.keep s, h.2⟩
theorem hgt_le (r : List Int) (hr : r.Nodup) (ms : List Int) (hm : ∀ k ∈ ms, k ∈ r) : hgt r ms ≤ r.length := by
  have key : ∀ q : List Int, q.Nodup → ∀ k ∈ q, dep q k < q.length := by
    intro q
    induction q with
    | nil => intro _ k hk; exact nomatch hk
    | cons x q ih =>
      intro hn k hk
      rw [List.nodup_cons] at hn
      rw [List.length_cons]
      by_cases e : k = x
      · subst e
        rw [dep, if_pos rfl]
        cases hp : (placeR q k).1 with
        | none => simp
        | some m =>
          have := ih hn.2 m (placeR_mem q k m hp)
          simp only
          omega
      · rw [dep, if_neg e]
        rcases List.mem_cons.mp hk with z | z
        · exact absurd z e
        · have := ih hn.2 k z
          omega
  induction ms with
  | nil => exact Nat.zero_le _
  | cons x l ih =>
    unfold hgt
    have h1 := key r hr x (hm x List.mem_cons_self)
    have h2 := ih fun k hk => hm k (List.mem_cons_of_mem _ hk)
    omega
theorem hgt40 {H : Hp} {p : Addr} {ns ms : List Int} (h : TreeOf H p ns ms) : hgt ns.reverse ms ≤ 40 := by
  have h1 := hgt_le ns.reverse (rev_nodup h.2.1.nd) ms fun k hk => List.mem_reverse.mpr ((asc_mem h.2.2 k).mp hk)
  rw [List.length_reverse] at h1
  have := h.2.1.len
  omega
theorem pairs_len {ns ms : List Int} (ho : Order ns) (ha : Asc ms ns) : (pairsOf ns ms).length ≤ 40 := by
  unfold pairsOf
  rw [List.length_map, ha.1.length_eq]
  exact ho.len
def spRows : Sp := fun vs H Q _ => ∃ (p : Addr) (ns ms : List Int), vs = [.ref p] ∧ TreeOf H p ns ms ∧ ∀ H' d as, Same H H' → H d = none → H' d = some (.lst (as.map V.ref)) → ListsAt H' as (rowsL ns ms (hgt ns.reverse ms)) → (∀ b ∈ as, H b = none) → Q (.ref d) H'
/-- pairs of keys and parents -/
structure Pairs (l : List (Int × Option Int)) : Prop where
  key : ∀ x ∈ l, InR x.1
  par : ∀ x ∈ l, ∀ m, x.2 = some m → InR m
  len : l.length ≤ 40
/-- neighbours ascend -/
def ascN (ks : List Int) : List Bool := (List.range (ks.length - 1)).map fun i => decide ((ks[i]?).getD 0 < (ks[i + 1]?).getD 0)
def spPair : Sp := fun vs H Q _ => ∃ (q : Addr) (x : Int × Option Int), vs = [.ref q] ∧ H q = some (.tup [.int x.1, oV x.2]) ∧ InR x.1 ∧ (∀ m, x.2 = some m → InR m) ∧ Q (.bl true) H
def dictOf (l : List (Int × Option Int)) : List (Key × V) := l.map fun x => (Sum.inl x.1, oV x.2)
theorem dictOf_new {l : List (Int × Option Int)} {k : Int} (h : k ∉ l.map (·.1)) : valV (dictOf l) (Sum.inl k) = none := by
  cases e : valV (dictOf l) (Sum.inl k) with
  | none => rfl
  | some v =>
    have := valV_in e
    unfold dictOf at this
    rw [List.map_map, List.mem_map] at this
    obtain ⟨y, hy, ey⟩ := this
    have : y.1 = k := Sum.inl.inj ey
    exact absurd (List.mem_map.mpr ⟨y, hy, this⟩) h
def spParIn : Sp := fun vs H Q _ => ∃ (p : Addr) (l : List (Int × Option Int)), vs = [.ref p] ∧ TreeAt H p l ∧ (l.map (·.1)).Nodup ∧ l.length ≤ 40 ∧ ∀ H' d, Same H H' → H d = none → H' d = some (.dK (dictOf l)) → Q (.ref d) H'
def spForm : Sp := fun vs H Q _ => ∃ (p : Addr) (l : List (Int × Option Int)), vs = [.ref p] ∧ TreeAt H p l ∧ Pairs l ∧ ∀ H', Same H H' → Q (.bl ((ascN (l.map (·.1))).all id)) H'
theorem len_sub : ∀ (l m : List Int), l.Nodup → (∀ x ∈ l, x ∈ m) → l.length ≤ m.length
  | [], m, _, _ => Nat.zero_le _
  | x :: l, m, hn, hs => by
    rw [List.nodup_cons] at hn
    have hx := hs x List.mem_cons_self
    have ih := len_sub l (m.erase x) hn.2 fun y hy => (List.mem_erase_of_ne (show y ≠ x from fun e => hn.1 (by rw [← e]; exact hy))).mpr (hs y (List.mem_cons_of_mem _ hy))
    rw [List.length_erase_of_mem hx] at ih
    have : 0 < m.length := List.length_pos_of_mem hx
    rw [List.length_cons]
    omega
theorem asc_lt {ms ns : List Int} (ho : ns.Nodup) (ha : Asc ms ns) : ms.Pairwise (· < ·) := by
  have hn : ms.Nodup := ha.1.nodup_iff.mpr ho
  have h1 := ha.2
  clear ho ha
  induction ms with
  | nil => exact List.Pairwise.nil
  | cons x l ih =>
    rw [List.pairwise_cons] at h1 ⊢
    rw [List.nodup_cons] at hn
    refine ⟨fun y hy => ?_, ih hn.2 h1.2⟩
    have h2 := h1.1 y hy
    have h3 : x ≠ y := fun e => hn.1 (e ▸ hy)
    omega
theorem ascN_of {ks : List Int} (h : ks.Pairwise (· < ·)) : (ascN ks).all id = true := by
  rw [List.all_eq_true]
  intro b hb
  unfold ascN at hb
  obtain ⟨i, hi, rfl⟩ := List.mem_map.mp hb
  rw [List.mem_range] at hi
  have h1 : i < ks.length := by omega
  have h2 : i + 1 < ks.length := by omega
  rw [List.getElem?_eq_getElem h1, List.getElem?_eq_getElem h2]
  have := List.pairwise_iff_getElem.mp h i (i + 1) h1 h2 (by omega)
  exact decide_eq_true this
theorem pairs_keys (ns ms : List Int) : (pairsOf ns ms).map (·.1) = ms := by
  unfold pairsOf
  rw [List.map_map]
  exact List.map_id _
theorem pairs_ok {ns ms : List Int} (ho : Order ns) (ha : Asc ms ns) : Pairs (pairsOf ns ms) where
  key := fun x hx => by
    unfold pairsOf at hx
    obtain ⟨k, hk, rfl⟩ := List.mem_map.mp hx
    exact ho.rng k ((asc_mem ha k).mp hk)
  par := fun x hx m e => by
    unfold pairsOf at hx
    obtain ⟨k, hk, rfl⟩ := List.mem_map.mp hx
    have e' : parentIn ns.reverse k = some m := e
    rw [parentIn_eq] at e'
    exact ho.rng m (List.mem_reverse.mp (placeOf_mem e'))
  len := pairs_len ho ha
def spIsTree : Sp := fun vs H Q _ => ∃ (p : Addr) (ns ms : List Int), vs = [.ref p] ∧ TreeOf H p ns ms ∧ ∀ H', Same H H' → Q (.bl true) H'
def spCheckT : Sp := fun vs H Q _ => ∃ (p : Addr) (ns ms : List Int), vs = [.ref p] ∧ TreeOf H p ns ms ∧ ∀ H', Same H H' → Q .non H'
/-- the dict holds the parents of the tree -/
def DictFor (kvs : List (Key × V)) (r : List Int) : Prop := ∀ k ∈ r, valV kvs (Sum.inl k) = some (oV (BstM.placeOf r k).1)
theorem dictFor_pairs {ns ms : List Int} (ho : ns.Nodup) (ha : Asc ms ns) : DictFor (dictOf (pairsOf ns ms)) ns.reverse := by
  intro k hk
  have hm : k ∈ ms := (asc_mem ha k).mpr (List.mem_reverse.mp hk)
  have hmn : ms.Nodup := ha.1.nodup_iff.mpr ho
  rw [← parentIn_eq]
  have gen : ∀ l : List Int, l.Nodup → k ∈ l → valV (dictOf (pairsOf ns l)) (Sum.inl k) = some (oV (parentIn ns.reverse k)) := by
    intro l
    induction l with
    | nil => intro _ h; exact nomatch h
    | cons x l ih =>
      intro hn h
      rw [List.nodup_cons] at hn
      show valV ((Sum.inl x, oV (parentIn ns.reverse x)) :: dictOf (pairsOf ns l)) (Sum.inl k) = _
      by_cases e : x = k
      · subst e
        rw [valV_pos rfl]
      · rw [valV_neg (fun z => e (Sum.inl.inj z))]
        rcases List.mem_cons.mp h with z | z
        · exact absurd z.symm e
        · exact ih hn.2 z
  exact gen ms hmn hm
theorem dictFor_pars {ns : List Int} (ho : ns.Nodup) : DictFor (parsR ns.reverse) ns.reverse := fun k hk => by
  rw [parsR_val (rev_nodup ho) hk, parentIn_eq]
theorem dget_rd {H : Hp} {a : Addr} {kvs : List (Key × V)} {k : Int} (e : Rd H a (.dK kvs)) : DGet H a (.int k) (valV kvs (Sum.inl k)) := .inl ⟨kvs, Sum.inl k, e, rfl, rfl⟩
theorem Rd.keep {H H' : Hp} {a : Addr} {u : HO} (r : Rd H a u) (s : Same H H') : Rd H' a u := by
  rcases r with r | ⟨o, r⟩
  · exact .inl (s _ _ r)
  · exact .inr ⟨o, s _ _ r⟩
def spKnown : Sp := fun vs H Q _ => ∃ (d : Addr) (kvs : List (Key × V)) (k : Int), vs = [.ref d, .int k] ∧ Rd H d (.dK kvs) ∧ (valV kvs (Sum.inl k)).isSome = true ∧ InR k ∧ Q .non H
def spPathIn : Sp := fun vs H Q _ => ∃ (d : Addr) (kvs : List (Key × V)) (r : List Int) (k : Int), vs = [.ref d, .int k] ∧ Rd H d (.dK kvs) ∧ r.Nodup ∧ r.length ≤ 40 ∧ DictFor kvs r ∧ k ∈ r ∧ ∀ H' b, Same H H' → H b = none → H' b = some (.lst ((pathUp r k).reverse.map V.int)) → Q (.ref b) H'
theorem tree_key {H : Hp} {p : Addr} {ns ms : List Int} (h : TreeOf H p ns ms) {k : Int} (hk : k ∈ ns) : (valV (dictOf (pairsOf ns ms)) (Sum.inl k)).isSome = true := by
  rw [dictFor_pairs h.2.1.nd h.2.2 k (List.mem_reverse.mpr hk)]
  rfl
theorem tree_nd {H : Hp} {p : Addr} {ns ms : List Int} (h : TreeOf H p ns ms) : ((pairsOf ns ms).map (·.1)).Nodup := by
  rw [pairs_keys]
  exact h.2.2.1.nodup_iff.mpr h.2.1.nd
def spPath : Sp := fun vs H Q _ => ∃ (p : Addr) (ns ms : List Int) (k : Int), vs = [.ref p, .int k] ∧ TreeOf H p ns ms ∧ k ∈ ns ∧ ∀ H' b, Same H H' → H b = none → H' b = some (.lst ((pathUp ns.reverse k).reverse.map V.int)) → Q (.ref b) H'
/-- the last of the list that passes -/
def lastBy (p : Int → Bool) (l : List Int) : Option Int := l.foldl (fun o c => if p c then some c else o) none
theorem lastBy_snoc (p : Int → Bool) (l : List Int) (x : Int) : lastBy p (l ++ [x]) = if p x then some x else lastBy p l := by
  unfold lastBy
  rw [List.foldl_append]
  rfl
theorem lastBy_one {p : Int → Bool} {o : Option Int} : ∀ {l : List Int}, (∀ c ∈ l, p c = true → o = some c) → (∀ c, o = some c → c ∈ l ∧ p c = true) → lastBy p l = o := by
  intro l h1 h2
  have gen : ∀ (n : List Int), (∀ c ∈ n.reverse, p c = true → o = some c) → lastBy p n.reverse = o ∨ (lastBy p n.reverse = none ∧ ∀ c ∈ n.reverse, p c = false) := by
    intro n
    induction n with
    | nil => intro _; exact .inr ⟨rfl, fun c h => nomatch h⟩
    | cons x n ih =>
      rw [List.reverse_cons]
      generalize n.reverse = m at ih ⊢
      intro h
      rw [lastBy_snoc]
      cases hp : p x with
      | true =>
        left
        rw [h x (by simp) hp]
        rfl
      | false =>
        rcases ih fun c hc => h c (by simp [hc]) with e | ⟨e, n⟩
        · exact .inl e
        · refine .inr ⟨e, fun c hc => ?_⟩
          rcases List.mem_append.mp hc with hc | hc
          · exact n c hc
          · rw [List.mem_singleton] at hc
            rw [hc, hp]
  have gen := gen l.reverse
  rw [List.reverse_reverse] at gen
  rcases gen h1 with e | ⟨e, n⟩
  · exact e
  · rw [e]
    cases o with
    | none => rfl
    | some c =>
      obtain ⟨h3, h4⟩ := h2 c rfl
      rw [n c h3] at h4
      cases h4
theorem inV_one (o : Option Int) (k : Int) : inV (oV o) [.int k] = decide (o = some k) := by
  have := inV_ints o [k]
  rw [List.map_cons, List.map_nil] at this
  rw [this]
  cases o with
  | none => rfl
  | some m =>
    simp only [List.mem_singleton]
    rw [decide_eq_decide]
    constructor
    · intro e; rw [e]
    · intro e; exact Option.some.inj e
theorem kids_under {ns ms : List Int} (ho : ns.Nodup) (ha : Asc ms ns) (k : Int) : ∀ c, c ∈ under (pairsOf ns ms) [.int k] ↔ c ∈ ns.reverse ∧ (BstM.placeOf ns.reverse c).1 = some k := by
  intro c
  rw [under_pairs, List.mem_filter, inV_one, parentIn_eq, decide_eq_true_eq, asc_mem ha c, List.mem_reverse]
theorem kids_left {r : List Int} (hr : r.Nodup) {k : Int} {cs : List Int} (h : ∀ c, c ∈ cs ↔ c ∈ r ∧ (BstM.placeOf r c).1 = some k) : lastBy (fun c => decide (c < k)) cs = kid r k false := by
  refine lastBy_one (fun c hc hp => ?_) (fun c e => ?_)
  · obtain ⟨h1, h2⟩ := (h c).mp hc
    have := kid_of hr h1 h2
    have hlt : c < k := of_decide_eq_true hp
    rw [decide_eq_false (by omega)] at this
    exact this
  · obtain ⟨h1, h2, h3⟩ := kid_some hr e
    have hne := kid_ne hr h1 h2
    have h4 : ¬ c > k := of_decide_eq_false h3
    exact ⟨(h c).mpr ⟨h1, h2⟩, decide_eq_true (by omega)⟩
theorem kids_right {r : List Int} (hr : r.Nodup) {k : Int} {cs : List Int} (h : ∀ c, c ∈ cs ↔ c ∈ r ∧ (BstM.placeOf r c).1 = some k) : lastBy (fun c => !decide (c < k)) cs = kid r k true := by
  refine lastBy_one (fun c hc hp => ?_) (fun c e => ?_)
  · obtain ⟨h1, h2⟩ := (h c).mp hc
    have hne := kid_ne hr h1 h2
    have := kid_of hr h1 h2
    have hlt : ¬ c < k := by
      intro z
      rw [decide_eq_true z] at hp
      cases hp
    rw [decide_eq_true (by omega)] at this
    exact this
  · obtain ⟨h1, h2, h3⟩ := kid_some hr e
    have h4 : c > k := of_decide_eq_true h3
    exact ⟨(h c).mpr ⟨h1, h2⟩, by rw [decide_eq_false (by omega)]; rfl⟩
def spKids : Sp := fun vs H Q _ => ∃ (p : Addr) (ns ms : List Int) (k : Int), vs = [.ref p, .int k] ∧ TreeOf H p ns ms ∧ k ∈ ns ∧ ∀ H' b, Same H H' → H b = none → H' b = some (.tup [oV (kid ns.reverse k false), oV (kid ns.reverse k true)]) → Q (.ref b) H'
def belowL (ns ms : List Int) (k : Int) : List Int := ms.filter fun o => decide (k ∈ pathUp ns.reverse o)
def spBelow : Sp := fun vs H Q _ => ∃ (p : Addr) (ns ms : List Int) (k : Int), vs = [.ref p, .int k] ∧ TreeOf H p ns ms ∧ k ∈ ns ∧ ∀ H' b, Same H H' → H b = none → H' b = some (.lst ((belowL ns ms k).map V.int)) → Q (.ref b) H'
theorem inV_rev (k : Int) (l : List Int) : inV (.int k) (l.reverse.map V.int) = decide (k ∈ l) := by
  have := inV_ints (some k) l.reverse
  rw [show oV (some k) = V.int k from rfl] at this
  rw [this]
  simp
theorem flat_ints (l : List Int) : (l.map V.int).all flatV = true := by
  rw [List.all_map, List.all_eq_true]
  intro x _
  rfl
def spDepth : Sp := fun vs H Q _ => ∃ (p : Addr) (ns ms : List Int) (k : Int), vs = [.ref p, .int k] ∧ TreeOf H p ns ms ∧ k ∈ ns ∧ ∀ H', Same H H' → Q (.int ((pathUp ns.reverse k).length - 1)) H'
def spHeight : Sp := fun vs H Q _ => ∃ (p : Addr) (ns ms : List Int), vs = [.ref p] ∧ TreeOf H p ns ms ∧ ∀ H', Same H H' → Q (.int (hgt ns.reverse ms)) H'
/-- a pool of draws -/
structure Pool (x y : Int) : Prop where
  x0 : 0 ≤ x
  y0 : 0 ≤ y
  y1 : y < 2147483647
def PoolAt (H : Hp) (p : Addr) : Prop := ∃ x y, H p = some (.lst [.int x, .int y]) ∧ Pool x y
/-- all but the pool is as it was -/
def Kp (p : Addr) (H H' : Hp) : Prop := PoolAt H' p ∧ ∀ b o, b ≠ p → H b = some o → H' b = some o
theorem Kp.refl {p : Addr} {H : Hp} (h : PoolAt H p) : Kp p H H := ⟨h, fun _ _ _ e => e⟩
theorem Kp.trans {p : Addr} {H H1 H2 : Hp} (a : Kp p H H1) (b : Kp p H1 H2) : Kp p H H2 := ⟨b.1, fun c o n e => b.2 c o n (a.2 c o n e)⟩
theorem Kp.upd {p : Addr} {H : Hp} {x y : Int} (h : Pool x y) : Kp p H (upd H p (.lst [.int x, .int y])) := ⟨⟨x, y, upd_same, h⟩, fun _ _ n e => by rw [upd_ne n]; exact e⟩
theorem Kp.new {p q : Addr} {H : Hp} {o : HO} (h : PoolAt H p) (n : H q = none) : Kp p H (L2.upd H q o) := by
  obtain ⟨x, y, e, k⟩ := h
  exact ⟨⟨x, y, by rw [upd_ne (ne_of_none e n)]; exact e, k⟩, fun _ _ _ e => by rw [upd_ne (ne_of_none e n)]; exact e⟩
theorem Kp.same {p : Addr} {H H1 H2 : Hp} (a : Kp p H H1) (s : Same H1 H2) : Kp p H H2 := by
  obtain ⟨⟨x, y, e, k⟩, h⟩ := a
  exact ⟨⟨x, y, s _ _ e, k⟩, fun b o n e => s _ _ (h b o n e)⟩
theorem Kp.free {p q : Addr} {H H1 : Hp} (a : Kp p H H1) (h0 : PoolAt H p) (h : H1 q = none) : H q = none := by
  cases e : H q with
  | none => rfl
  | some o =>
    by_cases n : q = p
    · subst n
      obtain ⟨⟨x, y, e2, _⟩, _⟩ := a
      rw [e2] at h
      cases h
    · rw [a.2 q o n e] at h
      cases h
/-- a new object changed -/
theorem Kp.put {p q : Addr} {H H1 : Hp} {o : HO} (a : Kp p H H1) (n : H q = none) (hp : q ≠ p) : Kp p H (L2.upd H1 q o) := by
  obtain ⟨⟨x, y, e, k⟩, h⟩ := a
  exact ⟨⟨x, y, by rw [upd_ne hp.symm]; exact e, k⟩, fun b o nb eb => by rw [upd_ne (ne_of_none eb n)]; exact h b o nb eb⟩
theorem b01 (b : Bool) : -(2 ^ 64) < (if b = true then (1 : Int) else 0) ∧ (if b = true then (1 : Int) else 0) < 2 ^ 64 := by
  cases b <;> decide
def spPool (K : PySem.W.Frag) : Sp := fun vs H Q _ => ∃ (a : Addr) (ns : List Int) (k : Nat), vs = [.ref a, .int k] ∧ SqL K H a (ns.map V.int) ∧ ns.length ≤ 63 ∧ k ≤ 63 ∧ ∀ H' p, Same H H' → H p = none → PoolAt H' p → Q (.ref p) H'
def spDraw : Sp := fun vs H Q _ => ∃ (p : Addr) (c : Int), vs = [.ref p, .int c] ∧ PoolAt H p ∧ 0 < c ∧ c < 2 ^ 64 ∧ ∀ H' r, Kp p H H' → 0 ≤ r → r < c → Q (.int r) H'
theorem pick5a (r : Int) (h0 : 0 ≤ r) (h1 : r < 5) : ∃ v : Int, atI [V.int 1, V.int 2, V.int 5, V.int (10 ^ (6 : Int).toNat), V.int (10 ^ (16 : Int).toNat)] r = some (.int v) ∧ 1 ≤ v ∧ v ≤ 10 ^ 16 := by
  have : r = 0 ∨ r = 1 ∨ r = 2 ∨ r = 3 ∨ r = 4 := by omega
  rcases this with rfl | rfl | rfl | rfl | rfl
  · exact ⟨1, rfl, by decide, by decide⟩
  · exact ⟨2, rfl, by decide, by decide⟩
  · exact ⟨5, rfl, by decide, by decide⟩
  · exact ⟨10 ^ 6, rfl, by decide, by decide⟩
  · exact ⟨10 ^ 16, rfl, by decide, by decide⟩
theorem pick5b (r : Int) (h0 : 0 ≤ r) (h1 : r < 5) : ∃ v : Int, atI [V.int 0, V.int (-3), V.int (10 ^ (17 : Int).toNat), V.int (-(10 ^ (18 : Int).toNat)), V.int (-17)] r = some (.int v) ∧ -(10 ^ 18) ≤ v ∧ v ≤ 10 ^ 17 := by
  have : r = 0 ∨ r = 1 ∨ r = 2 ∨ r = 3 ∨ r = 4 := by omega
  rcases this with rfl | rfl | rfl | rfl | rfl
  · exact ⟨0, rfl, by decide, by decide⟩
  · exact ⟨-3, rfl, by decide, by decide⟩
  · exact ⟨10 ^ 17, rfl, by decide, by decide⟩
  · exact ⟨-(10 ^ 18), rfl, by decide, by decide⟩
  · exact ⟨-17, rfl, by decide, by decide⟩
theorem pick3 (r : Int) (h0 : 0 ≤ r) (h1 : r < 3) : ∃ v : Int, atI [V.int 1, V.int 10, V.int (10 ^ (15 : Int).toNat)] r = some (.int v) ∧ 1 ≤ v ∧ v ≤ 10 ^ 15 := by
  have : r = 0 ∨ r = 1 ∨ r = 2 := by omega
  rcases this with rfl | rfl | rfl
  · exact ⟨1, rfl, by decide, by decide⟩
  · exact ⟨10, rfl, by decide, by decide⟩
  · exact ⟨10 ^ 15, rfl, by decide, by decide⟩
/-- strictly ascending keys -/
structure Keys (ks : List Int) : Prop where
  lt : ks.Pairwise (· < ·)
  rng : ∀ k ∈ ks, InR k
theorem keys_last {ks : List Int} (h : Keys ks) (hb : ∀ k ∈ ks, k < 10 ^ 18) (hl : 0 < ks.length) : Keys (ks.set (ks.length - 1) (10 ^ 18)) := by
  have e : ks.set (ks.length - 1) (10 ^ 18) = ks.dropLast ++ [10 ^ 18] := by
    have hne : ks ≠ [] := fun z => by rw [z] at hl; exact absurd hl (Nat.lt_irrefl _)
    conv => lhs; rw [← List.dropLast_concat_getLast hne]
    rw [List.set_append_right _ _ (by simp)]
    simp
  rw [e]
  refine ⟨?_, fun k hk => ?_⟩
  · rw [List.pairwise_append]
    refine ⟨h.lt.sublist (List.dropLast_sublist _), List.pairwise_singleton _ _, fun a ha b hb' => ?_⟩
    rw [List.mem_singleton] at hb'
    subst hb'
    exact hb a ((List.dropLast_sublist ks).subset ha)
  · rcases List.mem_append.mp hk with hk | hk
    · exact h.rng k ((List.dropLast_sublist ks).subset hk)
    · rw [List.mem_singleton] at hk
      subst hk
      unfold InR
      omega
def spKeys : Sp := fun vs H Q _ => ∃ (p : Addr) (n : Nat), vs = [.ref p, .int n] ∧ PoolAt H p ∧ n ≤ 40 ∧ ∀ H' q ks, Kp p H H' → H q = none → q ≠ p → H' q = some (.lst (ks.map V.int)) → Keys ks → ks.length = n → Q (.ref q) H'
theorem eraseP : ∀ (l : List Int) (i : Nat) (h : i < l.length), (l[i] :: l.eraseIdx i).Perm l
  | a :: l, 0, _ => List.Perm.refl _
  | a :: l, i + 1, h => by
    have h' : i < l.length := by simpa using h
    have := eraseP l i h'
    show (l[i] :: a :: l.eraseIdx i).Perm (a :: l)
    exact (List.Perm.swap _ _ _).trans (List.Perm.cons a this)
theorem map_erase (f : Int → V) : ∀ (l : List Int) (i : Nat), (l.map f).eraseIdx i = (l.eraseIdx i).map f
  | [], _ => rfl
  | _ :: _, 0 => rfl
  | a :: l, i + 1 => by
    show f a :: (l.map f).eraseIdx i = f a :: (l.eraseIdx i).map f
    rw [map_erase f l i]
def spShuf : Sp := fun vs H Q _ => ∃ (p b : Addr) (ks : List Int), vs = [.ref p, .ref b] ∧ PoolAt H p ∧ b ≠ p ∧ H b = some (.lst (ks.map V.int)) ∧ ks.length ≤ 40 ∧ ∀ H' q (ms : List Int), Kp p H H' → H q = none → q ≠ p → H' q = some (.lst (ms.map V.int)) → ms.Perm ks → Q (.ref q) H'
theorem cut_to (xs : List V) (i : Nat) : cutV xs none (some (i : Int)) = xs.take i := by
  unfold cutV
  rw [HT.sIx_none, HT.sIx_nat, List.drop_zero, Nat.sub_zero]
  by_cases h : i ≤ xs.length
  · rw [Nat.min_eq_left h]
  · rw [Nat.min_eq_right (by omega), List.take_of_length_le (Nat.le_refl _), List.take_of_length_le (by omega)]
theorem cut_map (ns : List Int) (i : Nat) : cutV (ns.map V.int) none (some (i : Int)) = (ns.take i).map V.int := by
  rw [cut_to, List.map_take]
/-- the test of the law's comprehension -/
theorem btw_iff (k o x : Int) : (decide ((if o < k then o else k) < x) && decide (x < (if o > k then o else k))) = decide (btw k o x) := by
  rw [Bool.eq_iff_iff]
  simp only [Bool.and_eq_true, decide_eq_true_eq]
  unfold btw
  by_cases h : o < k
  · have h2 : ¬ o > k := by omega
    rw [if_pos h, if_neg h2]
    omega
  · by_cases h3 : o > k
    · rw [if_neg h, if_pos h3]
      omega
    · rw [if_neg h, if_neg h3]
      omega
theorem clear_filter (l : List Int) (k o : Int) : decide (l.filter (fun x => decide (btw k o x)) = []) = clear l k o := by
  rw [Bool.eq_iff_iff]
  simp only [decide_eq_true_eq]
  rw [List.filter_eq_nil_iff, clear_iff]
  simp
theorem take_snoc {ns : List Int} {i : Nat} (h : i < ns.length) : ns.take (i + 1) = ns.take i ++ [ns[i]] := List.take_succ_eq_append_getElem h
/-- the law's parents are those of the tree -/
theorem law_parent {ns : List Int} (h : ns.Nodup) {i : Nat} (hi : i < ns.length) : lastClear (ns.take i) ns[i] (ns.take i) = (placeR (ns.take i).reverse ns[i]).1 := by
  have := lastClear_place (ns.take i).reverse (nodup_take h i) ns[i] (not_in_take h hi)
  rw [List.reverse_reverse] at this
  exact this
theorem keys_order {ks ms : List Int} (h : Keys ks) (p : ms.Perm ks) (hl : ks.length ≤ 40) : Order ms where
  nd := p.nodup_iff.mpr (h.lt.imp fun z => Int.ne_of_lt z)
  rng := fun k hk => h.rng k (p.mem_iff.mp hk)
  len := by rw [p.length_eq]; exact hl
def spOrd : Sp := fun vs H Q _ => ∃ (p : Addr) (m : Nat), vs = [.ref p, .int m] ∧ PoolAt H p ∧ m ≤ 40 ∧ ∀ H' q ns, Kp p H H' → H q = none → q ≠ p → H' q = some (.lst (ns.map V.int)) → Order ns → ns.length ≤ m → Q (.ref q) H'
def spTree (K : PySem.W.Frag) : Sp := fun vs H Q _ => ∃ (a : Addr) (ns : List Int), vs = [.ref a] ∧ SqL K H a (ns.map V.int) ∧ ns.Nodup ∧ ns.length ≤ 40 ∧ ∀ H' p ms, Same H H' → H p = none → Asc ms ns → TreeAt H' p (pairsOf ns ms) → Q (.ref p) H'
abbrev nLKids : List Str := ["_law_parents_here", "_law_key", "_law_left", "_law_right", "_law_other"]
def oPd : Option Int → PyData
  | none => .none
  | some i => .int i
theorem dp_oP {K : PySem.W.Frag} {H : Hp} (o : Option Int) : Dp K H (oV o) (oPd o) := by
  cases o with
  | none => exact .non
  | some i => exact .int i
theorem shaped_oP (o : Option Int) : SeqAt.shaped (oPd o) = true := by
  cases o <;> simp [oPd, SeqAt.shaped, PyData.canLay0, PyData.depth]
theorem eqv_oP (o : Option Int) (k : Int) : PyData.eqv (oPd o) (.int k) = decide (o = some k) := by
  cases o with
  | none => simp [oPd, PyData.eqv]
  | some m =>
    rw [oPd, PyData.eqv]
    rw [Bool.eq_iff_iff]
    simp
/-- of a list that holds the child, if there is one, and nothing else -/
theorem first_or {o : Option Int} {fl : List Int} (h1 : ∀ c ∈ fl, o = some c) (h2 : ∀ c, o = some c → c ∈ fl) : (fl.map V.int ++ [V.non])[0]? = some (oV o) := by
  cases fl with
  | nil =>
    cases o with
    | none => rfl
    | some c => exact absurd (h2 c rfl) (fun z => nomatch z)
  | cons x l =>
    rw [h1 x List.mem_cons_self]
    rfl
def spLKids : Sp := fun vs H Q _ => ∃ (d : Addr) (ns : List Int) (k : Int), vs = [.ref d, .int k] ∧ H d = some (.dK (parsR ns.reverse)) ∧ ns.Nodup ∧ ns.length ≤ 40 ∧ ∀ H' b, Same H H' → H b = none → H' b = some (.tup [oV (kid ns.reverse k false), oV (kid ns.reverse k true)]) → Q (.ref b) H'
abbrev nSearch : List Str := ["_law_tree", "_law_key", "_law_found", "_law_step", "_law_pair"]
theorem roots_pairs {ns ms : List Int} (ho : ns.Nodup) (ha : Asc ms ns) (k : Int) : ((pairsOf ns ms).filter fun x => decide (x.2 = none)).map (·.1) = metL ns.reverse k 1 := by
  rw [← roots_met (rev_nodup ho) (ha.1.nodup_iff.mpr ho) (fun x => (asc_mem ha x).trans List.mem_reverse.symm) k]
  unfold pairsOf
  rw [List.filter_map, List.map_map]
  have : ((fun x : Int × Option Int => x.1) ∘ fun k => (k, parentIn ns.reverse k)) = id := rfl
  rw [this, List.map_id]
  refine List.filter_congr fun x _ => ?_
  show decide (parentIn ns.reverse x = none) = _
  rw [parentIn_eq]
theorem isNon_o (o : Option Int) : decide (oV o = V.non) = decide (o = none) := by cases o <;> rfl
def spSearch : Sp := fun vs H Q _ => ∃ (p : Addr) (ns ms : List Int) (k : Int) (N : Nat), vs = [.ref p, .int k] ∧ TreeOf H p ns ms ∧ Srch ns.reverse k N ∧ ∀ H' b, Same H H' → H b = none → H' b = some (.lst ((metL ns.reverse k N).map V.int)) → Q (.ref b) H'
/-- how often the law goes around -/
theorem turns (N n : Nat) (h : 1 ≤ N) : ∃ m : Nat, (m : Int) = (if (if (n : Int) < (N : Int) then (n : Int) else (N : Int)) > 1 then (if (n : Int) < (N : Int) then (n : Int) else (N : Int)) else 1) ∧ m ≤ N := by
  refine ⟨(if (if (n : Int) < (N : Int) then (n : Int) else (N : Int)) > 1 then (if (n : Int) < (N : Int) then (n : Int) else (N : Int)) else 1).toNat, ?_, ?_⟩ <;> (repeat' split) <;> omega
theorem get_int {ns : List Int} {i : Nat} {x : V} (h : (ns.map V.int)[i]? = some x) : ∃ hi : i < ns.length, x = .int ns[i] := by
  have hi : i < ns.length := by
    have := (List.getElem?_eq_some_iff.mp h).1
    rw [List.length_map] at this
    exact this
  refine ⟨hi, ?_⟩
  rw [List.getElem?_map, List.getElem?_eq_getElem hi] at h
  exact (Option.some.inj h).symm
/-- first_in, of a list of ints -/
def spFirstIn (K : PySem.W.Frag) : Sp := fun vs H Q _ => ∃ (a : Addr) (ns : List Int) (lo hi : Int), vs = [.ref a, .int lo, .int hi] ∧ SqL K H a (ns.map V.int) ∧ Q (oV (firstIn ns lo hi)) H
def spFirstB : Sp := fun vs H Q _ => ∃ (a : Addr) (ns : List Int) (lo hi : Int), vs = [.ref a, .int lo, .int hi] ∧ H a = some (.lst (ns.map V.int)) ∧ Order ns ∧ ∀ H', Same H H' → Q (oV (firstIn ns lo hi)) H'
theorem order_nil : Order [] := ⟨List.nodup_nil, fun _ h => (nomatch h), by decide⟩
def spKeysIn : Sp := fun vs H Q _ => ∃ (p : Addr) (l : List (Int × Option Int)), vs = [.ref p] ∧ TreeAt H p l ∧ l.length ≤ 40 ∧ ∀ H' d, Same H H' → H d = none → H' d = some (.lst ((l.map (·.1)).map V.int)) → Q (.ref d) H'
/-- the keys row by row: an order of the tree -/
def spRbr : Sp := fun vs H Q _ => ∃ (p : Addr) (ns ms : List Int), vs = [.ref p] ∧ TreeOf H p ns ms ∧ ∀ H' d, Same H H' → H d = none → H' d = some (.lst ((rowOrder ns.reverse ms).map V.int)) → Q (.ref d) H'
end
end T1
namespace T1
open PySem
def topS (i : Nat) : Stmt := PySem.Challenge.pw_insertionorders_k28_whole_all_orders_are.main.body.getD i (.Pass ⟨0, 0, 0, 0⟩)
/-- the first def of a class -/
def iniOf : Stmt → Stmt
  | .ClassDef _ _ _ body _ _ _ _ _ _ _ => body.getD 0 (.Pass ⟨0, 0, 0, 0⟩)
  | _ => .Pass ⟨0, 0, 0, 0⟩
end T1
/-! Dicts whose keys are nested tuples (trees; a tree and a number). -/
namespace DN
open PySem PySem.Spec PyProof.Rows L2 T1
mutual
inductive KeyV (H : Hp) : NestedKey → V → Prop
  | non : KeyV H .none .non
  | int (i : Int) : KeyV H (.num i) (.int i)
  | tup {q : Addr} {ks : List NestedKey} {xs : List V} : H q = some (.tup xs) → KeyVs H ks xs → KeyV H (.tup ks) (.ref q)
inductive KeyVs (H : Hp) : List NestedKey → List V → Prop
  | nil : KeyVs H [] []
  | cons {k : NestedKey} {v : V} {ks : List NestedKey} {vs : List V} : KeyV H k v → KeyVs H ks vs → KeyVs H (k :: ks) (v :: vs)
end
mutual
theorem KeyV.keep {H H' : Hp} (s : ∀ b xs, H b = some (.tup xs) → H' b = some (.tup xs)) : ∀ (k : NestedKey) (v : V), KeyV H k v → KeyV H' k v
  | .none, _, h => by cases h; exact .non
  | .num i, _, h => by cases h; exact .int i
  | .text _, _, h => nomatch h
  | .tup ks, _, h => by
    cases h with
    | tup e t => exact .tup (s _ _ e) (KeyVs.keep s ks _ t)
theorem KeyVs.keep {H H' : Hp} (s : ∀ b xs, H b = some (.tup xs) → H' b = some (.tup xs)) : ∀ (ks : List NestedKey) (vs : List V), KeyVs H ks vs → KeyVs H' ks vs
  | [], _, h => by cases h; exact .nil
  | k :: ks, _, h => by
    cases h with
    | cons e t => exact .cons (KeyV.keep s k _ e) (KeyVs.keep s ks _ t)
end
mutual
theorem KeyV.is {P : Program} {w : World} {H : Hp} {h : Heap} (ok : HOk P w H h) : ∀ (k : NestedKey) (v : V) (u : Value), KeyV H k v → RelV v u → NestedIs h k u
  | .none, _, u, x, r => by
    cases x
    obtain rfl : u = Value.none := r
    exact .none
  | .num i, _, u, x, r => by
    cases x
    obtain ⟨t, rfl⟩ := (show ∃ t, u = Value.int i t from r)
    exact .int i t
  | .text _, _, _, x, _ => nomatch x
  | .tup ks, _, u, x, r => by
    cases x with
    | @tup q _ xs e t =>
      obtain rfl : u = Value.ref q := r
      obtain ⟨_, its, rs, o, h1, h2, n, h3⟩ := (show ObjOk P w H h q (.tup xs) from ok q _ e)
      exact .tup h1 h2 h3 (by simpa using KeyVs.is ok ks xs its t rs)
theorem KeyVs.is {P : Program} {w : World} {H : Hp} {h : Heap} (ok : HOk P w H h) : ∀ (ks : List NestedKey) (vs : List V) (us : List Value), KeyVs H ks vs → Vals vs us → NestedAll h ks us
  | [], _, _, x, r => by cases x; cases r; exact .nil
  | k :: ks, _, _, x, r => by
    cases x with
    | cons e t => cases r with
      | cons r1 r2 => exact .cons (KeyV.is ok k _ _ e r1) (KeyVs.is ok ks _ _ t r2)
end
/-- the tuple at b is the key k -/
def KeyA (H : Hp) (k : NestedKey) (b : Addr) : Prop := KeyV H k (.ref b) ∧ k.depth ≤ 8
theorem KeyA.keep {H H' : Hp} {k : NestedKey} {b : Addr} (h : KeyA H k b) (s : ∀ b xs, H b = some (.tup xs) → H' b = some (.tup xs)) : KeyA H' k b := ⟨KeyV.keep s _ _ h.1, h.2⟩
theorem KeyA.is {P : Program} {w : World} {H : Hp} {h : Heap} {k : NestedKey} {b : Addr} (x : KeyA H k b) (ok : HOk P w H h) : (nestedKind P w).is h k b := ⟨KeyV.is ok k _ _ x.1 (show RelV (.ref b) (Value.ref b) from rfl), x.2⟩
theorem KeyA.tup {H : Hp} {k : NestedKey} {b : Addr} (x : KeyA H k b) : ∃ xs, H b = some (.tup xs) := by
  obtain ⟨x, _⟩ := x
  cases x with
  | tup e _ => exact ⟨_, e⟩
abbrev Ent := NestedKey × Addr × V
def EntIs : Ent → NestedKey × Addr × Value → Prop := fun p q => p.1 = q.1 ∧ p.2.1 = q.2.1 ∧ RelV p.2.2 q.2.2
def valN (es : List Ent) (k : NestedKey) : Option V := (es.find? fun e => decide (e.1 = k)).map (·.2.2)
def putN (es : List Ent) (k : NestedKey) (b : Addr) (v : V) : List Ent := if (valN es k).isSome then es.map (fun e => if e.1 = k then (e.1, e.2.1, v) else e) else es ++ [(k, b, v)]
def DNh (P : Program) (w : World) (a : Addr) (es : List Ent) (h : Heap) : Prop :=
  (a == sysModules) = false ∧ es.length ≤ sizeLine ∧ ∃ xs : List (NestedKey × Addr × Value), Paired EntIs es xs ∧
    ∃ o ds ep, h.get? a = some o ∧ o.ExactDict ∧ o.data = .dict ds ep ∧ ds.toList = xs.map (entryOfKey (nestedKind P w)) ∧ (xs.map (·.1)).Nodup
/-- a dict with such keys -/
def DN (P : Program) (w : World) (a : Addr) (es : List Ent) : HO := .ext (DNh P w a es)
theorem dn_ok {P : Program} {w : World} {a : Addr} {es : List Ent} {H : Hp} {h : Heap} (d : DNh P w a es h) : ObjOk P w H h a (DN P w a es) := by
  refine ⟨d, ?_, fun h1 h2 d1 k => ?_⟩
  · obtain ⟨_, _, xs, _, o, ds, ep, ho, _⟩ := d
    exact ⟨o, ho⟩
  · obtain ⟨hs, z, xs, r, o, ds, ep, ho, rest⟩ := d1
    exact ⟨hs, z, xs, r, o, ds, ep, k o ho, rest⟩
theorem val_atN {es : List Ent} {xs : List (NestedKey × Addr × Value)} (r : Paired EntIs es xs) (k : NestedKey) :
    match valN es k with
    | some v => ∃ c u, atKey xs k = some (c, u) ∧ RelV v u
    | none => atKey xs k = none := by
  induction r with
  | nil => rfl
  | @cons e x es xs h t ih =>
    obtain ⟨h1, h2, h3⟩ := h
    by_cases q : e.1 = k
    · have q' : x.1 = k := by rw [← h1, q]
      have e1 : valN (e :: es) k = some e.2.2 := by simp [valN, List.find?_cons, q]
      have e2 : atKey (x :: xs) k = some x.2 := by simp [atKey, List.find?_cons, q']
      rw [e1, e2]
      exact ⟨x.2.1, x.2.2, rfl, h3⟩
    · have q' : ¬ x.1 = k := fun z => q (h1.trans z)
      have e1 : valN (e :: es) k = valN es k := by simp [valN, List.find?_cons, q]
      have e2 : atKey (x :: xs) k = atKey xs k := by simp [atKey, List.find?_cons, q']
      rw [e1, e2]
      exact ih
theorem put_pair {es : List Ent} {xs : List (NestedKey × Addr × Value)} (r : Paired EntIs es xs) (k : NestedKey) (b : Addr) {v : V} {u : Value} (rv : RelV v u) : Paired EntIs (putN es k b v) (storedH xs k b u) := by
  have q := val_atN r k
  unfold putN storedH
  cases hv : valN es k with
  | none =>
    rw [hv] at q
    rw [show atKey xs k = none from q]
    exact TK.paired_snoc r ⟨rfl, rfl, rv⟩
  | some m =>
    rw [hv] at q
    obtain ⟨c, u', hc, _⟩ := q
    rw [hc]
    show Paired EntIs (es.map _) (xs.map (putAt k u))
    clear hv hc
    induction r with
    | nil => exact .nil
    | @cons e x es xs h t ih =>
      obtain ⟨h1, h2, h3⟩ := h
      refine .cons ?_ ih
      unfold putAt
      dsimp only
      by_cases z : e.1 = k
      · rw [if_pos z, if_pos (h1 ▸ z)]
        exact ⟨h1, h2, rv⟩
      · rw [if_neg z, if_neg (fun y => z (h1.trans y))]
        exact ⟨h1, h2, h3⟩
theorem putN_len (es : List Ent) (k : NestedKey) (b : Addr) (v : V) : (putN es k b v).length ≤ es.length + 1 := by
  unfold putN
  split
  · rw [List.length_map]; omega
  · rw [List.length_append]; exact Nat.le_refl _
theorem putN_new {es : List Ent} {k : NestedKey} (b : Addr) (v : V) (h : valN es k = none) : putN es k b v = es ++ [(k, b, v)] := by unfold putN; rw [h]; rfl
theorem valN_none {es : List Ent} {k : NestedKey} : valN es k = none ↔ ∀ e ∈ es, e.1 ≠ k := by
  unfold valN
  rw [Option.map_eq_none_iff, List.find?_eq_none]
  constructor
  · exact fun h e he z => by simpa [z] using h e he
  · exact fun h e he => by simpa using h e he
/-- the dict at a holds es, its keys stand -/
def HasN (P : Program) (w : World) (H : Hp) (a : Addr) (es : List Ent) : Prop := H a = some (DN P w a es) ∧ ∀ e ∈ es, KeyA H e.1 e.2.1
def HasR (P : Program) (w : World) (H : Hp) (a : Addr) (es : List Ent) : Prop := Rd H a (DN P w a es) ∧ ∀ e ∈ es, KeyA H e.1 e.2.1
theorem HasN.rd {P : Program} {w : World} {H : Hp} {a : Addr} {es : List Ent} (h : HasN P w H a es) : HasR P w H a es := ⟨.inl h.1, h.2⟩
theorem HasN.keep {P : Program} {w : World} {H H' : Hp} {a : Addr} {es : List Ent} (h : HasN P w H a es) (s : Same H H') : HasN P w H' a es := ⟨s _ _ h.1, fun e he => (h.2 e he).keep fun b xs z => s _ _ z⟩
theorem dn_of {P : Program} {w : World} {H : Hp} {h : Heap} {a : Addr} {es : List Ent} (ok : HOk P w H h) (g : HasR P w H a es) :
    (a == sysModules) = false ∧ es.length ≤ sizeLine ∧ ∃ xs, Paired EntIs es xs ∧ h.DictOfH (nestedKind P w) a xs := by
  obtain ⟨e, k⟩ := g
  obtain ⟨⟨hs, z, xs, r, o, ds, ep, ho, hx, hd, he, hn⟩, _, _⟩ := (show ObjOk P w H h a (DN P w a es) from e.ok ok)
  refine ⟨hs, z, xs, r, o, ds, ep, ho, hx, hd, he, ?_, hn⟩
  have all : ∀ {l : List Ent} {m : List (NestedKey × Addr × Value)}, Paired EntIs l m → (∀ e ∈ l, KeyA H e.1 e.2.1) → ∀ x ∈ m, (nestedKind P w).is h x.1 x.2.1 := by
    intro l m q
    induction q with
    | nil => intro _ x hx; exact nomatch hx
    | @cons e x es xs hq t ih =>
      intro k y hy
      obtain ⟨q1, q2, _⟩ := hq
      rcases List.mem_cons.mp hy with z | hy
      · subst z
        rw [← q1, ← q2]
        exact (k e List.mem_cons_self).is ok
      · exact ih (fun e he => k e (List.mem_cons_of_mem _ he)) y hy
  exact all r k
section
variable {X : Cx} {pins : List (Addr × Obj)} {σ : L2.St} {H : Hp} {s : Shared} {a b : Addr} {k : NestedKey} {es : List Ent} {A : Around} {E : Value → Shared → Prop}
theorem n_get {v : V} {Q : Value → Shared → Prop} (hu : A.units + 9 < cLine) (I : Inv X pins σ H s) (g : HasR X.prog X.w H a es) (eb : KeyA H k b) (hv : valN es k = some v)
    (h : ∀ u s', Inv X pins σ H s' → RelV v u → Q u s') : wpAny (model X.prog X.w) A (getItem (.ref a) (.ref b)) Q E s := by
  obtain ⟨hs, z, xs, r, dd⟩ := dn_of I.hok g
  have q := val_atN r k
  rw [hv] at q
  obtain ⟨c, u, hc, ru⟩ := q
  exact wpAny_getItem_heap (show (nestedKind X.prog X.w).room A.in1 by show A.units + 1 + 8 < cLine; omega) (eb.is I.hok) dd hc (h u _ (I.tok _) ru)
theorem n_set {v : V} {r : Value} {Q : Unit → Shared → Prop} (hu : A.units + 9 < cLine) (I : Inv X pins σ H s) (g : HasN X.prog X.w H a es) (hn : es.length < sizeLine) (eb : KeyA H k b) (rv : RelV v r)
    (h : ∀ s', Inv X pins σ (upd H a (DN X.prog X.w a (putN es k b v))) s' → Q () s') :
    wpAny (model X.prog X.w) A (setItem (.ref a) (.ref b) r) Q E s := by
  obtain ⟨hs, z, xs, rel, dd⟩ := dn_of I.hok g.rd
  have hz : xs.length ≤ sizeLine := by rw [← Paired.length rel]; exact z
  refine wpAny_setItem_heap (hsz := hz) (show (nestedKind X.prog X.w).room A.in1 by show A.units + 1 + 8 < cLine; omega) (eb.is I.hok) dd fun h' dd' hsb => ?_
  obtain ⟨o, ds, ep, h1, h2, h3, h4, _, h5⟩ := dd'
  refine h _ (d_write (t' := s.toks + (nestedKind X.prog X.w).draws k) (ob := DN X.prog X.w a (putN es k b v)) I (by rw [g.1]; exact True.intro) hsb ⟨o, h1⟩ (dn_ok ⟨hs, ?_, _, put_pair rel k b rv, o, ds, ep, h1, h2, h3, h4, h5⟩))
  have := putN_len es k b v
  omega
end
theorem hasN_put {P : Program} {w : World} {H : Hp} {a b : Addr} {es : List Ent} {k : NestedKey} {v : V} (g : HasN P w H a es) (eb : KeyA H k b) : HasN P w (upd H a (DN P w a (putN es k b v))) a (putN es k b v) := by
  have kp : ∀ (b : Addr) (xs : List V), H b = some (.tup xs) → (upd H a (DN P w a (putN es k b v))) b = some (.tup xs) := fun b xs z => by
    rw [upd_ne (ne_of z g.1 (fun y => nomatch y))]; exact z
  have kp : ∀ (c : Addr) (xs : List V), H c = some (.tup xs) → (upd H a (DN P w a (putN es k b v))) c = some (.tup xs) := fun c xs z => by
    rw [upd_ne (ne_of z g.1 (fun y => nomatch y))]; exact z
  refine ⟨upd_same, fun e he => KeyA.keep (H := H) ?_ kp⟩
  unfold putN at he
  split at he
  · obtain ⟨e0, h0, rfl⟩ := List.mem_map.mp he
    by_cases z : e0.1 = k
    · rw [if_pos z]; exact g.2 e0 h0
    · rw [if_neg z]; exact g.2 e0 h0
  · rcases List.mem_append.mp he with he | he
    · exact g.2 e he
    · rw [List.mem_singleton] at he
      subst he
      exact eb
/-! ### the readings -/
def tNGet (P : Program) (w : World) (td ty : TE) : TE := fun σ H Q => td σ H fun x H1 => ty σ H1 fun y H2 => ∃ a b es k v, x = .ref a ∧ y = .ref b ∧ HasR P w H2 a es ∧ KeyA H2 k b ∧ valN es k = some v ∧ Q v H2
def sNPut (P : Program) (w : World) (td ty tv : TE) : TS := fun D σ H => tv σ H fun v H1 => td σ H1 fun x H2 => ty σ H2 fun y H3 => ∃ a b es k, x = .ref a ∧ y = .ref b ∧ HasN P w H3 a es ∧ es.length < sizeLine ∧ KeyA H3 k b ∧
  D.nx σ (upd H3 a (DN P w a (putN es k b v)))
def tNNew (P : Program) (w : World) : TE := fun _ H Q => ∀ q, H q = none → Q (.ref q) (upd H q (DN P w q []))
section
variable {X : Cx} {o i e value : Expr} {pos pos' tpos : Pos} {td ty tv : TE}
theorem pe_nget (hu : X.A.units + 9 < cLine) (ho : PE X o td) (hi : PE X i ty) (hs : NoSl i) : PE X (.Subscript o i pos) (tNGet X.prog X.w td ty) := by
  refine ⟨fun pins s σ H Q I h => ?_⟩
  refine subD_of PySem.F.slot_dict_getitem.lookup hs (thn (ho.run pins s σ H _ I h) fun u s1 ⟨x, H1, I1, rx, q1⟩ => thn (hi.run pins s1 σ H1 _ I1 q1) fun iv s2 ⟨y, H2, I2, ry, q2⟩ => ?_)
  obtain ⟨a, b, es, k, v, ex, ey, g, eb, hv, q2⟩ := q2
  subst ex ey
  obtain rfl : u = Value.ref a := rx
  obtain rfl : iv = Value.ref b := ry
  refine ⟨?_, n_get hu I2 g eb hv fun r s3 I3 rr => ⟨v, H2, I3, rr, q2⟩⟩
  obtain ⟨_, _, xs, _, dd⟩ := dn_of I2.hok g
  exact dd.typeIs
theorem ps_nput (hu : X.A.units + 9 < cLine) (ho : PE X o td) (hi : PE X i ty) (hv : PE X value tv) (hs : swapsWith value (some (.Subscript o i pos')) pos.line X.env = pure false) :
    PS X (.Assign [.Subscript o i pos'] value pos) (sNPut X.prog X.w td ty tv) := by
  refine ⟨fun pins s σ H D I h => ?_⟩
  refine wpAny_Assign_Subscript (thn (hv.run pins s σ H _ I h) fun r s1 ⟨v, H1, I1, rv, q1⟩ => thn (ho.run pins s1 σ H1 _ I1 q1) fun u s2 ⟨x, H2, I2, rx, q2⟩ => thn (hi.run pins s2 σ H2 _ I2 q2) fun iv s3 ⟨y, H3, I3, ry, q3⟩ => ?_) hs
  obtain ⟨a, b, es, k, ex, ey, g, hn, eb, q3⟩ := q3
  subst ex ey
  obtain rfl : u = Value.ref a := rx
  obtain rfl : iv = Value.ref b := ry
  exact n_set hu I3 g hn eb rv fun s4 I4 => ⟨σ, _, I4, q3⟩
theorem pe_nnew : PE X (.Dict [] [] pos) (tNNew X.prog X.w) := ⟨fun pins s σ H Q I h => by
  have hd : DNh X.prog X.w s.heap.objs.size [] (s.heap.push { cls := .type "dict", data := .dict #[] }) :=
    ⟨beq_eq_false_iff_ne.mpr (Ne.symm (Nat.ne_of_lt I.big)), Nat.zero_le _, [], .nil, _, #[], 0, Heap.get?_push_size _ rfl, ⟨rfl, rfl, rfl⟩, rfl, rfl, List.nodup_nil⟩
  have I' := I.laid (a := s.heap.objs.size) (o := DN X.prog X.w s.heap.objs.size []) (t' := s.toks) (fun _ _ q => Heap.get?_push_of_some _ q) (Nat.le_refl _) (dn_ok hd)
  exact wpAny_Dict_empty ⟨.ref s.heap.objs.size, _, I', rfl, h _ (I.hok.fresh (Nat.le_refl _))⟩⟩
/-- len(d) -/
def rLenN (P : Program) (w : World) : List V → Hp → VK → Prop := fun xs H Q => ∃ (a : Addr) (es : List Ent), xs = [.ref a] ∧ HasR P w H a es ∧ Q (.int ((es.length : Nat) : Int)) H
theorem cr_lenN : CallR X (.builtin "len") (rLenN X.prog X.w) := by
  intro pins s σ H xs us Q I r h
  obtain ⟨p, es, rfl, g, q⟩ := h
  obtain ⟨u, rfl, rx⟩ := vals1 r
  obtain rfl : u = .ref p := rx
  obtain ⟨hd, z, ys, rel, dd⟩ := dn_of I.hok g
  have hl := Paired.length rel
  refine call_len_dictH hd dd (by rw [← hl]; rw [sizeLine_eq] at z; omega) ?_
  rw [← hl]
  exact ⟨.int ((es.length : Nat) : Int), H, I.tok _, ⟨_, rfl⟩, q⟩
/-- list(d): the key tuples in order -/
def rListN (P : Program) (w : World) : List V → Hp → VK → Prop := fun xs H Q => ∃ (a : Addr) (es : List Ent), xs = [.ref a] ∧ HasR P w H a es ∧ ∀ p, H p = none → Q (.ref p) (upd H p (.lst (es.map fun e => V.ref e.2.1)))
theorem refs_of {es : List Ent} {xs : List (NestedKey × Addr × Value)} (r : Paired EntIs es xs) : Vals (es.map fun e => V.ref e.2.1) (xs.map fun x => Value.ref x.2.1) := by
  induction r with
  | nil => exact .nil
  | cons h t ih =>
    obtain ⟨_, h2, _⟩ := h
    exact .cons (by show Value.ref _ = Value.ref _; rw [h2]) ih
theorem cr_listN (hc : X.calm = true) : CallR X (.type "list") (rListN X.prog X.w) := by
  intro pins s σ H xs us Q I r h
  obtain ⟨d, es, rfl, g, q⟩ := h
  obtain ⟨u, rfl, rx⟩ := r.one
  cases rx
  obtain ⟨hs, z, ks, pr, o, ds, ep, ho, hx, hdt, he, _, hn⟩ := dn_of I.hok g
  have l1 : ds.size = ks.length := size_of_entries he
  have l2 := Paired.length pr
  refine PySem.W.kdl_call (kdl_raw hs hx hdt) (I.ok.hd hc) ho (by omega) fun h' tk acc' c' kp e it => ?_
  have ea : acc'.toList = ks.map fun x => Value.ref x.2.1 := by
    refine List.ext_getElem? fun j => ?_
    have hl : acc'.toList.length = ks.length := by rw [Array.length_toList, it.1]; exact l1
    rw [List.getElem?_map]
    rcases Nat.lt_or_ge j ks.length with hj | hj
    · obtain ⟨v, hv⟩ : ∃ v, acc'.toList[j]? = some v := ⟨_, List.getElem?_eq_getElem (by omega)⟩
      obtain ⟨en, hen, hv'⟩ := it.2 j v (by rw [← Array.getElem?_toList]; exact hv)
      have qe := entry_at he j
      rw [hen, List.getElem?_eq_getElem hj] at qe
      rw [hv, List.getElem?_eq_getElem hj, hv', Option.some.inj qe]
      rfl
    · rw [List.getElem?_eq_none (by omega), List.getElem?_eq_none hj]; rfl
  refine ⟨.ref s.heap.objs.size, _, I.laid (t' := tk) (o := .lst (es.map fun e => V.ref e.2.1)) kp (Nat.le_refl _) ⟨by rw [List.length_map]; exact z, acc'.toList, c', ?_, by rw [Array.toArray_toList]; exact e⟩, rfl, q _ (I.hok.fresh (Nat.le_refl _))⟩
  rw [ea]
  exact refs_of pr
end
/-! ### a walk over the keys of a locked one -/
def ItN (P : Program) (w : World) (d : Addr) (o : Obj) (es : List Ent) : It :=
  ⟨fun i H => H d = some (.frz o (DN P w d es)) ∧ i < es.length, fun i H x H' => H' = H ∧ ∃ e, es[i]? = some e ∧ x = .ref e.2.1, fun i H => H d = some (.frz o (DN P w d es)) ∧ es.length ≤ i⟩
theorem walk_N {P : Program} {w : World} {d : Addr} {o : Obj} {es : List Ent} : Walk (ItN P w d o es) es.length (fun H => H d = some (.frz o (DN P w d es))) (YAt (es.map fun e => V.ref e.2.1)) :=
  ⟨fun _ _ hi q => ⟨q, hi⟩, fun _ q => ⟨q, Nat.le_refl _⟩, fun i H x H' hi _ ⟨h1, e, h2, h3⟩ => ⟨h1, by rw [List.getElem?_map, h2, h3]; rfl⟩⟩
theorem frzN {X : Cx} {pins : List (Addr × Obj)} {σ : L2.St} {H : Hp} {s : Shared} {d : Addr} {o : Obj} {es : List Ent} (I : Inv X pins σ H s) (h : H d = some (.frz o (DN X.prog X.w d es))) :
    (d == sysModules) = false ∧ s.heap.get? d = some o ∧ o.ExactDict ∧ ∃ (ds : Array DictEntry) (ep : Nat), o.data = .dict ds ep ∧ ds.size = es.length ∧ ∀ (i : Nat) (e : Ent), es[i]? = some e → ∃ en : DictEntry, ds[i]? = some en ∧ en.key = .ref e.2.1 := by
  obtain ⟨hd, ⟨hs, z, xs, pr, o', ds, ep, ho, hx, hdt, he, hn⟩, _, _⟩ := I.hok d _ h
  rw [hd] at ho
  cases ho
  have l1 : ds.size = xs.length := size_of_entries he
  have l2 := Paired.length pr
  refine ⟨hs, hd, hx, ds, ep, hdt, by omega, fun i e hi => ?_⟩
  obtain ⟨b, hb, _, e2, _⟩ := T1.paired_get pr hi
  have q := entry_at he i
  rw [hb] at q
  exact ⟨_, q, by rw [e2]; rfl⟩
theorem turn_N {P : Program} {w : World} {K : PySem.W.Frag} {tg : Expr} {d : Addr} {o : Obj} {ds : Array DictEntry} {ep : Nat} {es : List Ent} (it : Addr) (hod : o.data = .dict ds ep) :
    Turn P w K tg (ItN P w d o es) [it] it (fun i h => h.IsKeyIter it d i es.length ep) := by
  refine ⟨List.mem_singleton.mpr rfl, fun i h st b hb => ?_, fun i h h' st k => st.at fun oi e => k it (List.mem_singleton.mpr rfl) oi e, ?_, ?_, fun A i s Q E st h => wpAny_pyIter_keyiter st h⟩
  · obtain ⟨oi, e, _, dd⟩ := st
    rw [List.mem_singleton.mp hb]
    exact ⟨oi, e, fun v z => by rw [dd] at z; cases z⟩
  · intro X hP hw hK hc i pins s σ H E I hf st ⟨hd, hi⟩
    subst hP hw hK
    obtain ⟨f0, f1, f2, f3, f4, f5⟩ := hf it (List.mem_singleton.mpr rfl)
    obtain ⟨hs, hgd, hx, ds', ep', hdt, hsz, ent⟩ := frzN I hd
    obtain ⟨rfl, rfl⟩ := dict_ep hod hdt
    obtain ⟨en, hen, hkey⟩ := ent i es[i] (List.getElem?_eq_getElem hi)
    refine next_key_item st hgd hdt hsz hen fun h' st' sb => ?_
    have I1 : Inv X pins σ H { s with heap := h' } := I.turned (t' := s.toks) (fun b ob hb e => (sb.2 b hb).trans e) f0 f1 f3 f4 f5
    obtain ⟨oi, e, c, dd⟩ := id st'
    exact ⟨en.key, rfl, go_of (s := { s with heap := h' }) e c dd (by decide) ⟨.ref es[i].2.1, H, I1, hkey, ⟨rfl, es[i], List.getElem?_eq_getElem hi, rfl⟩, st', fun b hb => (hf b hb).1⟩⟩
  · intro X hP hw hK hc i pins s σ H E I hf st ⟨hd, hi⟩
    subst hP hw hK
    obtain ⟨f0, f1, f2, f3, f4, f5⟩ := hf it (List.mem_singleton.mpr rfl)
    obtain ⟨hs, hgd, hx, ds', ep', hdt, hsz, ent⟩ := frzN I hd
    obtain ⟨rfl, rfl⟩ := dict_ep hod hdt
    exact next_key_end (I.ok.hd hc) st hgd hdt hsz hi fun h' eb => ⟨rfl, I.turned (t' := s.toks) (fun b ob hb e => eb b ob hb e) f0 f1 f3 f4 f5⟩
def iKeysN (P : Program) (w : World) (td : TE) : TI := fun σ H R => td σ H fun x H1 => ∃ d o es, x = .ref d ∧ H1 d = some (.frz o (DN P w d es)) ∧ R (ItN P w d o es) H1
theorem pi_keysN {X : Cx} {tg e : Expr} {td : TE} (he : PE X e td) : PI X tg e (iKeysN X.prog X.w td) := ⟨fun pins s σ H R I h => thn (he.run pins s σ H _ I h) fun u s1 ⟨x, H1, I1, rx, d, o, es, ex, hd, q⟩ => by
  subst ex
  obtain rfl : u = Value.ref d := rx
  obtain ⟨hs, hgd, hx, ds, ep, hdt, hsz, _⟩ := frzN I1 hd
  exact iter_keys hs hgd hx hdt (pi_one (tk := s1.toks) I1 _ (turn_N _ hdt) ⟨_, Heap.get?_push_size _ rfl, rfl, by rw [hsz]; rfl⟩ q)⟩
/-! ### xs[::n] -/
def tSkip (K : PySem.W.Frag) (te tn : TE) : TE := fun σ H Q => te σ H fun x H1 => tn σ H1 fun y H2 => ∃ i, y = .int i ∧ ∃ a xs, x = .ref a ∧ 0 < i ∧ SqL K H2 a xs ∧ ∀ p ys, H2 p = none → (∀ y ∈ ys, y ∈ xs) → Q (.ref p) (upd H2 p (.lst ys))
theorem vals_pick {xs : List V} {its : List Value} (r : Vals xs its) (l : List Nat) : ∃ ys, Vals ys (l.filterMap (its[·]?)) ∧ (∀ y ∈ ys, y ∈ xs) := by
  induction l with
  | nil => exact ⟨[], .nil, fun y h => nomatch h⟩
  | cons i l ih =>
    obtain ⟨ys, h1, h2⟩ := ih
    rw [List.filterMap_cons]
    cases hi : its[i]? with
    | none => exact ⟨ys, h1, h2⟩
    | some u =>
      obtain ⟨x, hx⟩ : ∃ x, xs[i]? = some x := by
        cases hx : xs[i]? with
        | some x => exact ⟨x, rfl⟩
        | none => rw [r.none_of hx] at hi; exact nomatch hi
      obtain ⟨u', hu, rx⟩ := r.get hx
      rw [hi] at hu
      cases hu
      exact ⟨x :: ys, .cons rx h1, fun y hy => (List.mem_cons.mp hy).elim (fun z => z ▸ List.mem_of_getElem? hx) (h2 y)⟩
end DN
/-! The meeting key; what a search meets, from the order alone. Plain Lean. -/
namespace BstM
theorem firstIn_before {ns : List Int} {lo hi c m : Int} (hn : ns.Nodup) (h : firstIn ns lo hi = some c) (h1 : lo ≤ m) (h2 : m ≤ hi) (hs : [m, c].Sublist ns) : False := by
  unfold firstIn at h
  obtain ⟨_, as, bs, e, hf⟩ := List.find?_eq_some_iff_append.mp h
  have hm : m ∉ as := fun hm => by
    have := hf m hm
    simp [h1, h2] at this
  subst e
  rw [List.nodup_append] at hn
  obtain ⟨_, hcb, hd⟩ := hn
  rw [List.nodup_cons] at hcb
  -- [m, c] is a sublist of as ++ c :: bs with m not in as
  have h3 : [m, c].Sublist (c :: bs) := by
    have key : ∀ as : List Int, m ∉ as → [m, c].Sublist (as ++ c :: bs) → [m, c].Sublist (c :: bs) := by
      intro as
      induction as with
      | nil => intro _ h; exact h
      | cons x as ih =>
        intro hx h
        rw [List.cons_append] at h
        cases h with
        | cons _ h => exact ih (fun z => hx (List.mem_cons_of_mem _ z)) h
        | cons_cons _ h => exact absurd List.mem_cons_self hx
    exact key as hm hs
  cases h3 with
  | cons _ h =>
    have : c ∈ bs := h.subset (by simp)
    exact hcb.1 this
  | cons_cons _ h => exact hcb.1 (h.subset (by simp))
theorem firstB_comm (ns : List Int) (a b : Int) : firstB ns a b = firstB ns b a := by
  unfold firstB
  rw [Int.min_comm, Int.max_comm]
theorem firstB_some {ns : List Int} {a b : Int} (ha : a ∈ ns) : ∃ m, firstB ns a b = some m ∧ m ∈ ns ∧ min a b ≤ m ∧ m ≤ max a b := by
  unfold firstB
  cases h : firstIn ns (min a b) (max a b) with
  | none => exact absurd ⟨by omega, by omega⟩ (firstIn_none.mp h a ha)
  | some m =>
    obtain ⟨h1, h2, h3⟩ := firstIn_mem h
    exact ⟨m, rfl, h1, h2, h3⟩
theorem firstB_self {ns : List Int} {a : Int} (ha : a ∈ ns) : firstB ns a a = some a := by
  obtain ⟨m, h, _, h2, h3⟩ := firstB_some (b := a) ha
  have : m = a := by omega
  rw [h, this]
/-- equal to or above -/
theorem on_path_iff {r : List Int} (hr : r.Nodup) {a b : Int} (ha : a ∈ r) (hb : b ∈ r) : a ∈ pathUp r b ↔ firstB r.reverse a b = some a := by
  by_cases e : a = b
  · subst e
    rw [firstB_self (List.mem_reverse.mpr ha)]
    rw [pathUp_eq r hr a ha]
    simp
  · exact above_iff r hr a b ha hb e
/-- a first key stays the first in a part of the range that has it -/
theorem firstB_sub {ns : List Int} {a b m x : Int} (h : firstB ns a b = some m) (hx1 : min a b ≤ x) (hx2 : x ≤ max a b) : firstB ns m x = some m := by
  have hm := firstIn_mem h
  unfold firstB firstIn at h ⊢
  obtain ⟨_, as, bs, e, hf⟩ := List.find?_eq_some_iff_append.mp h
  refine List.find?_eq_some_iff_append.mpr ⟨by simp; omega, as, bs, e, fun y hy => ?_⟩
  have := hf y hy
  simp at this ⊢
  omega
theorem meet_on {r : List Int} (hr : r.Nodup) {a b m : Int} (ha : a ∈ r) (hb : b ∈ r) (h : firstB r.reverse a b = some m) : m ∈ pathUp r a ∧ m ∈ pathUp r b := by
  have hm := firstIn_mem h
  have hmr := List.mem_reverse.mp hm.1
  exact ⟨(on_path_iff hr hmr ha).mpr (firstB_sub h (by omega) (by omega)), (on_path_iff hr hmr hb).mpr (firstB_sub h (by omega) (by omega))⟩
/-- the last common key of two paths -/
theorem meet_head {r : List Int} (hr : r.Nodup) {a b : Int} (ha : a ∈ r) (hb : b ∈ r) : ((pathUp r b).filter fun c => decide (c ∈ pathUp r a)).head? = firstB r.reverse a b := by
  obtain ⟨m, h, _, h2, h3⟩ := firstB_some (b := b) (List.mem_reverse.mpr ha)
  rw [h]
  obtain ⟨ma, mb⟩ := meet_on hr ha hb h
  obtain ⟨l1, l2, e⟩ := List.append_of_mem mb
  have hnr : r.reverse.Nodup := by
    unfold List.Nodup at hr ⊢
    rw [List.pairwise_reverse]
    exact hr.imp fun z e => z e.symm
  have hno : ∀ c ∈ l1, ¬ (c ∈ pathUp r a) := fun c hc hca => by
    have hcb : c ∈ pathUp r b := by rw [e]; exact List.mem_append_left _ hc
    have hcr := pathUp_mem r b c hcb
    have hs : [c, m].Sublist r := by
      have h1 : [c, m].Sublist (l1 ++ m :: l2) := by
        have h2 : [c].Sublist l1 := List.singleton_sublist.mpr hc
        have h3 : [m].Sublist (m :: l2) := (List.nil_sublist l2).cons₂ m
        exact h2.append h3
      rw [← e] at h1
      exact h1.trans (pathUp_sub r hr b)
    have hs2 : [m, c].Sublist r.reverse := by
      have := hs.reverse
      exact this
    have fa := (on_path_iff hr hcr ha).mp hca
    have fb := (on_path_iff hr hcr hb).mp hcb
    -- c is the first of a range that holds m
    by_cases h4 : min c a ≤ m ∧ m ≤ max c a
    · exact firstIn_before hnr fa h4.1 h4.2 hs2
    · by_cases h5 : min c b ≤ m ∧ m ≤ max c b
      · exact firstIn_before hnr fb h5.1 h5.2 hs2
      · omega
  rw [e, List.filter_append]
  have : l1.filter (fun c => decide (c ∈ pathUp r a)) = [] := List.filter_eq_nil_iff.mpr fun c hc => by
    simp [hno c hc]
  rw [this, List.nil_append, List.filter_cons, if_pos (decide_eq_true ma)]
  rfl
/-! ### what a search for a key meets -/
/-- later keys change no path -/
theorem pathUp_later : ∀ (post r : List Int) (k : Int), k ∉ post → pathUp (post ++ r) k = pathUp r k
  | [], _, _, _ => rfl
  | x :: post, r, k, h => by
    rw [List.cons_append, pathUp_tail (fun e => h (by rw [e]; exact List.mem_cons_self))]
    exact pathUp_later post r k fun z => h (List.mem_cons_of_mem _ z)
theorem pathUp_mid {pre post : List Int} {k : Int} (h : (pre ++ k :: post).Nodup) : pathUp (pre ++ k :: post).reverse k = k :: seen pre.reverse k := by
  rw [List.nodup_append] at h
  obtain ⟨h1, h2, h3⟩ := h
  rw [List.nodup_cons] at h2
  have hk : k ∉ pre := fun z => h3 k z k List.mem_cons_self rfl
  have e : (pre ++ k :: post).reverse = post.reverse ++ (k :: pre.reverse) := by simp
  rw [e, pathUp_later _ _ _ (fun z => h2.1 (List.mem_reverse.mp z))]
  have hn : pre.reverse.Nodup := by
    unfold List.Nodup at h1 ⊢
    rw [List.pairwise_reverse]
    exact h1.imp fun z e => z e.symm
  exact pathUp_head _ hn k (fun z => hk (List.mem_reverse.mp z))
/-- the greatest smaller key and the smallest greater one, as far as there are such -/
structure Nb (B : Int) (r : List Int) (k lo hi : Int) : Prop where
  lo1 : ∀ y ∈ r, y < k → y ≤ lo
  lo2 : lo = -B ∨ (lo ∈ r ∧ lo < k)
  hi1 : ∀ y ∈ r, k < y → hi ≤ y
  hi2 : hi = B ∨ (hi ∈ r ∧ k < hi)
theorem Nb.nil (B k : Int) : Nb B [] k (-B) B := ⟨fun _ h => (nomatch h), .inl rfl, fun _ h => (nomatch h), .inl rfl⟩
theorem nb_low {B : Int} {r : List Int} {k x lo hi : Int} (n : Nb B r k lo hi) (hr : r.Nodup) (hk : k ∉ r) (hx : x ∉ r) (hb : -B ≤ x) (h1 : lo ≤ x) (h2 : x < k) : seen (x :: r) k = x :: seen r k ∧ Nb B (x :: r) k x hi := by
  have e : placeR r k = placeR r x := (placeR_eq_iff r hr k x hk hx).mpr fun y hy hbt => by
    unfold btw at hbt
    have := n.lo1 y hy
    omega
  refine ⟨by rw [seen, if_pos e], fun y hy hyk => ?_, .inr ⟨List.mem_cons_self, h2⟩, fun y hy hyk => ?_, ?_⟩
  · rcases List.mem_cons.mp hy with z | z
    · omega
    · have := n.lo1 y z hyk
      omega
  · rcases List.mem_cons.mp hy with z | z
    · omega
    · exact n.hi1 y z hyk
  · rcases n.hi2 with z | z
    · exact .inl z
    · exact .inr ⟨List.mem_cons_of_mem _ z.1, z.2⟩
theorem nb_high {B : Int} {r : List Int} {k x lo hi : Int} (n : Nb B r k lo hi) (hr : r.Nodup) (hk : k ∉ r) (hx : x ∉ r) (hb : x ≤ B) (h1 : x ≤ hi) (h2 : k < x) : seen (x :: r) k = x :: seen r k ∧ Nb B (x :: r) k lo x := by
  have e : placeR r k = placeR r x := (placeR_eq_iff r hr k x hk hx).mpr fun y hy hbt => by
    unfold btw at hbt
    have := n.hi1 y hy
    omega
  refine ⟨by rw [seen, if_pos e], fun y hy hyk => ?_, ?_, fun y hy hyk => ?_, .inr ⟨List.mem_cons_self, h2⟩⟩
  · rcases List.mem_cons.mp hy with z | z
    · omega
    · exact n.lo1 y z hyk
  · rcases n.lo2 with z | z
    · exact .inl z
    · exact .inr ⟨List.mem_cons_of_mem _ z.1, z.2⟩
  · rcases List.mem_cons.mp hy with z | z
    · omega
    · have := n.hi1 y z hyk
      omega
theorem nb_none {B : Int} {r : List Int} {k x lo hi : Int} (n : Nb B r k lo hi) (hr : r.Nodup) (hk : k ∉ r) (hx : x ∉ r) (hkx : x ≠ k) (b1 : -B ≤ x) (b2 : x ≤ B) (h1 : ¬ (lo ≤ x ∧ x < k)) (h2 : ¬ (k < x ∧ x ≤ hi)) : seen (x :: r) k = seen r k ∧ Nb B (x :: r) k lo hi := by
  have e : placeR r k ≠ placeR r x := fun e => by
    have h := (placeR_eq_iff r hr k x hk hx).mp e
    by_cases h3 : x < k
    · rcases n.lo2 with z | z
      · omega
      · have := h lo z.1
        unfold btw at this
        omega
    · rcases n.hi2 with z | z
      · omega
      · have := h hi z.1
        unfold btw at this
        omega
  refine ⟨by rw [seen, if_neg e], fun y hy hyk => ?_, ?_, fun y hy hyk => ?_, ?_⟩
  · rcases List.mem_cons.mp hy with z | z
    · omega
    · exact n.lo1 y z hyk
  · rcases n.lo2 with z | z
    · exact .inl z
    · exact .inr ⟨List.mem_cons_of_mem _ z.1, z.2⟩
  · rcases List.mem_cons.mp hy with z | z
    · omega
    · exact n.hi1 y z hyk
  · rcases n.hi2 with z | z
    · exact .inl z
    · exact .inr ⟨List.mem_cons_of_mem _ z.1, z.2⟩
/-- the keys above a key, from the root on -/
def aboveOf (ns : List Int) (k : Int) : List Int := ((pathUp ns.reverse k).drop 1).reverse
theorem aboveOf_mid {pre post : List Int} {k : Int} (h : (pre ++ k :: post).Nodup) : aboveOf (pre ++ k :: post) k = (seen pre.reverse k).reverse := by
  unfold aboveOf
  rw [pathUp_mid h]
  rfl
theorem path_above {ns : List Int} (h : ns.Nodup) {k : Int} (hk : k ∈ ns) : (pathUp ns.reverse k).reverse = aboveOf ns k ++ [k] := by
  obtain ⟨pre, post, e⟩ := List.append_of_mem hk
  subst e
  rw [aboveOf_mid h, pathUp_mid h, List.reverse_cons]
theorem aboveOf_len {ns : List Int} (h : ns.Nodup) {k : Int} (hk : k ∈ ns) : (aboveOf ns k).length < ns.length := by
  have h1 := pathUp_len_le ns.reverse (by unfold List.Nodup at h ⊢; rw [List.pairwise_reverse]; exact h.imp fun z e => z e.symm) k (List.mem_reverse.mpr hk)
  have h2 := congrArg List.length (path_above h hk)
  rw [List.length_reverse, List.length_append] at h2
  rw [List.length_reverse] at h1
  simp at h2
  omega
end BstM
/-! Exchanges of neighbours. Plain Lean. -/
namespace BstM
theorem placeR_cons (x : Int) (r : List Int) (k : Int) : placeR (x :: r) k = if placeR r k = placeR r x then (some x, decide (k > x)) else placeR r k := rfl
theorem placeR_not {q : List Int} {x z : Int} (hx : x ∉ q) (b : Bool) : placeR q z ≠ (some x, b) := fun e => hx (placeR_mem q z x (by rw [e]))
theorem swap_place {q : List Int} {x y : Int} (hx : x ∉ q) (hy : y ∉ q) (h : placeR q x ≠ placeR q y) (z : Int) : placeR (y :: x :: q) z = placeR (x :: y :: q) z := by
  have e1 : placeR (x :: q) y = placeR q y := by rw [placeR_cons, if_neg (fun e => h e.symm)]
  have e2 : placeR (y :: q) x = placeR q x := by rw [placeR_cons, if_neg h]
  rw [placeR_cons y (x :: q), placeR_cons x (y :: q), e1, e2, placeR_cons x q, placeR_cons y q]
  by_cases hzx : placeR q z = placeR q x
  · have hzy : placeR q z ≠ placeR q y := fun e => h (hzx.symm.trans e)
    rw [if_pos hzx, if_neg hzy, if_pos hzx, if_neg (fun e => placeR_not hx _ e.symm)]
  · rw [if_neg hzx]
    by_cases hzy : placeR q z = placeR q y
    · rw [if_pos hzy, if_neg (fun e => placeR_not hy _ e.symm)]
    · rw [if_neg hzy, if_neg hzx]
theorem swap_placeA {q : List Int} {x y : Int} (hx : x ∉ q) (hy : y ∉ q) (h : placeR q x ≠ placeR q y) : ∀ (p : List Int) (z : Int), placeR (p ++ y :: x :: q) z = placeR (p ++ x :: y :: q) z
  | [], z => swap_place hx hy h z
  | w :: p, z => by
    rw [List.cons_append, List.cons_append, placeR_cons, placeR_cons, swap_placeA hx hy h p z, swap_placeA hx hy h p w]
theorem swap_of {q : List Int} {x y : Int} (hne : x ≠ y) (hx : x ∉ q) (hy : y ∉ q) (h : placeR q x ≠ placeR q y) : ∀ (p : List Int) (k : Int), placeOf (p ++ y :: x :: q) k = placeOf (p ++ x :: y :: q) k
  | [], k => by
    have e1 : placeR (x :: q) y = placeR q y := by rw [placeR_cons, if_neg (fun e => h e.symm)]
    have e2 : placeR (y :: q) x = placeR q x := by rw [placeR_cons, if_neg h]
    rw [List.nil_append, List.nil_append]
    by_cases hky : k = y
    · subst hky
      rw [placeOf_head, e1, placeOf_tail hne.symm, placeOf_head]
    · rw [placeOf_tail hky]
      by_cases hkx : k = x
      · subst hkx
        rw [placeOf_head, placeOf_head, e2]
      · rw [placeOf_tail hkx, placeOf_tail hkx, placeOf_tail hky]
  | w :: p, k => by
    rw [List.cons_append, List.cons_append]
    by_cases e : k = w
    · subst e
      rw [placeOf_head, placeOf_head, swap_placeA hx hy h p k]
    · rw [placeOf_tail e, placeOf_tail e, swap_of hne hx hy h p k]
theorem placeOf_later : ∀ (p r : List Int) (k : Int), k ∉ p → placeOf (p ++ r) k = placeOf r k
  | [], _, _, _ => rfl
  | x :: p, r, k, h => by
    rw [List.cons_append, placeOf_tail (fun e => h (by rw [e]; exact List.mem_cons_self))]
    exact placeOf_later p r k fun z => h (List.mem_cons_of_mem _ z)
/-- the exchanged order -/
def swapAt (pre post : List Int) (x y : Int) : List Int := pre ++ y :: x :: post
structure SwapOk (pre post : List Int) (x y : Int) : Prop where
  nd : (pre ++ x :: y :: post).Nodup
theorem SwapOk.facts {pre post : List Int} {x y : Int} (h : SwapOk pre post x y) : x ≠ y ∧ x ∉ pre.reverse ∧ y ∉ pre.reverse ∧ x ∉ post.reverse ∧ y ∉ post.reverse ∧ pre.reverse.Nodup := by
  have h := h.nd
  rw [List.nodup_append] at h
  obtain ⟨h1, h2, h3⟩ := h
  rw [List.nodup_cons, List.nodup_cons] at h2
  obtain ⟨h4, h5, _⟩ := h2
  refine ⟨fun e => h4 (by rw [e]; exact List.mem_cons_self), fun z => h3 x (List.mem_reverse.mp z) x (by simp) rfl, fun z => h3 y (List.mem_reverse.mp z) y (by simp) rfl, fun z => h4 (List.mem_cons_of_mem _ (List.mem_reverse.mp z)), fun z => h5 (List.mem_reverse.mp z), ?_⟩
  unfold List.Nodup at h1 ⊢
  rw [List.pairwise_reverse]
  exact h1.imp fun z e => z e.symm
theorem rev_swap (pre post : List Int) (x y : Int) : (pre ++ x :: y :: post).reverse = post.reverse ++ y :: x :: pre.reverse := by simp
/-- the earlier one is above the later one: they would take the same place -/
theorem above_next {pre post : List Int} {x y : Int} (h : SwapOk pre post x y) : firstB (pre ++ x :: y :: post) x y = some x ↔ placeR pre.reverse y = placeR pre.reverse x := by
  obtain ⟨hne, hx, hy, _, _, hn⟩ := h.facts
  have e : pre ++ x :: y :: post = (pre ++ [x]) ++ y :: post := by simp
  have h1 : firstB (pre ++ x :: y :: post) x y = firstB (pre ++ [x]) x y := by
    unfold firstB firstIn
    rw [e, List.find?_append]
    cases hf : (pre ++ [x]).find? (fun k => decide (min x y ≤ k) && decide (k ≤ max x y)) with
    | some m => rfl
    | none =>
      have := List.find?_eq_none.mp hf x (by simp)
      simp at this
      omega
  rw [h1]
  have hn2 : (x :: pre.reverse).Nodup := List.nodup_cons.mpr ⟨hx, hn⟩
  have hy2 : y ∉ x :: pre.reverse := fun z => by
    rcases List.mem_cons.mp z with z | z
    · exact hne z.symm
    · exact hy z
  have h2 := seen_iff (x :: pre.reverse) hn2 y x hy2 List.mem_cons_self
  rw [List.reverse_cons, List.reverse_reverse] at h2
  rw [← h2]
  show x ∈ (if placeR pre.reverse y = placeR pre.reverse x then x :: seen pre.reverse y else seen pre.reverse y) ↔ _
  by_cases hp : placeR pre.reverse y = placeR pre.reverse x
  · rw [if_pos hp]
    exact ⟨fun _ => hp, fun _ => List.mem_cons_self⟩
  · rw [if_neg hp]
    exact ⟨fun z => absurd (seen_mem _ _ _ z) hx, fun z => absurd z hp⟩
theorem swap_same {pre post : List Int} {x y : Int} (h : SwapOk pre post x y) (hp : firstB (pre ++ x :: y :: post) x y ≠ some x) (k : Int) : placeOf (pre ++ x :: y :: post).reverse k = placeOf (swapAt pre post x y).reverse k := by
  obtain ⟨hne, hx, hy, _, _, hn⟩ := h.facts
  unfold swapAt
  rw [rev_swap, rev_swap]
  exact swap_of hne hx hy (fun e => hp ((above_next h).mpr e.symm)) post.reverse k
theorem swap_parent {pre post : List Int} {x y : Int} (h : SwapOk pre post x y) (hp : firstB (pre ++ x :: y :: post) x y = some x) : (placeOf (pre ++ x :: y :: post).reverse y).1 = some x ∧ (placeOf (swapAt pre post x y).reverse y).1 ≠ some x := by
  obtain ⟨hne, hx, hy, hx2, hy2, hn⟩ := h.facts
  have e := (above_next h).mp hp
  unfold swapAt
  rw [rev_swap, rev_swap]
  constructor
  · rw [placeOf_later _ _ _ hy2, placeOf_head, placeR_cons, if_pos e]
  · rw [placeOf_later _ _ _ hy2, placeOf_tail hne.symm, placeOf_head]
    exact fun z => hx (placeR_mem _ _ _ z)
theorem swap_perm (pre post : List Int) (x y : Int) : (swapAt pre post x y).Perm (pre ++ x :: y :: post) := (List.Perm.swap x y post).append_left pre
end BstM
/-! Negated keys. Plain Lean. -/
namespace BstM
/-- the negated keys -/
def negL (l : List Int) : List Int := l.map fun k => 0 - k
theorem neg_inj {a b : Int} (h : 0 - a = 0 - b) : a = b := by omega
theorem mem_neg {l : List Int} {k : Int} : 0 - k ∈ negL l ↔ k ∈ l := by
  unfold negL
  rw [List.mem_map]
  constructor
  · rintro ⟨x, hx, e⟩
    rw [← neg_inj e]
    exact hx
  · intro h
    exact ⟨k, h, rfl⟩
theorem negL_nodup {l : List Int} (h : l.Nodup) : (negL l).Nodup := by
  unfold negL List.Nodup
  rw [List.pairwise_map]
  exact h.imp fun z e => z (neg_inj e)
theorem negL_rev (l : List Int) : (negL l).reverse = negL l.reverse := by
  unfold negL
  rw [List.map_reverse]
theorem neg_place {r : List Int} (hr : r.Nodup) {a b : Int} (ha : a ∉ r) (hb : b ∉ r) : (placeR (negL r) (0 - a) = placeR (negL r) (0 - b)) ↔ (placeR r a = placeR r b) := by
  rw [placeR_eq_iff _ (negL_nodup hr) _ _ (fun z => ha (mem_neg.mp z)) (fun z => hb (mem_neg.mp z)), placeR_eq_iff r hr a b ha hb]
  constructor
  · intro h y hy hbt
    refine h (0 - y) (mem_neg.mpr hy) ?_
    unfold btw at hbt ⊢
    omega
  · intro h y hy hbt
    obtain ⟨x, hx, rfl⟩ := List.mem_map.mp hy
    refine h x hx ?_
    unfold btw at hbt ⊢
    omega
theorem neg_seen : ∀ {r : List Int}, r.Nodup → ∀ {z : Int}, z ∉ r → seen (negL r) (0 - z) = negL (seen r z)
  | [], _, _, _ => rfl
  | x :: r, hr, z, hz => by
    rw [List.nodup_cons] at hr
    have hzr : z ∉ r := fun h => hz (List.mem_cons_of_mem _ h)
    have ih := neg_seen hr.2 hzr
    show seen ((0 - x) :: negL r) (0 - z) = _
    unfold seen
    by_cases h : placeR r z = placeR r x
    · rw [if_pos h, if_pos ((neg_place hr.2 hzr hr.1).mpr h), ih]
      rfl
    · rw [if_neg h, if_neg (fun e => h ((neg_place hr.2 hzr hr.1).mp e)), ih]
theorem neg_above {ns : List Int} (h : ns.Nodup) {k : Int} (hk : k ∈ ns) : aboveOf (negL ns) (0 - k) = negL (aboveOf ns k) := by
  obtain ⟨pre, post, e⟩ := List.append_of_mem hk
  subst e
  have hn : (negL (pre ++ k :: post)).Nodup := negL_nodup h
  have e : negL (pre ++ k :: post) = negL pre ++ (0 - k) :: negL post := by unfold negL; rw [List.map_append]; rfl
  rw [e] at hn ⊢
  rw [aboveOf_mid hn, aboveOf_mid h, negL_rev, neg_seen, negL_rev]
  · rw [List.nodup_append] at h
    unfold List.Nodup
    rw [List.pairwise_reverse]
    exact h.1.imp fun z e => z e.symm
  · rw [List.nodup_append] at h
    exact fun z => h.2.2 k (List.mem_reverse.mp z) k List.mem_cons_self rfl
/-- the parent is the last key that a search meets -/
theorem parent_last {ns : List Int} (h : ns.Nodup) {k : Int} (hk : k ∈ ns) : (placeOf ns.reverse k).1 = (aboveOf ns k).getLast? := by
  have hr : ns.reverse.Nodup := by unfold List.Nodup at h ⊢; rw [List.pairwise_reverse]; exact h.imp fun z e => z e.symm
  have hkr := List.mem_reverse.mpr hk
  unfold aboveOf
  rw [pathUp_eq _ hr k hkr, List.getLast?_reverse]
  show _ = (restUp ns.reverse (placeOf ns.reverse k).1).head?
  cases hp : (placeOf ns.reverse k).1 with
  | none => rfl
  | some m =>
    show _ = (pathUp ns.reverse m).head?
    rw [pathUp_eq _ hr m (placeOf_mem hp)]
    rfl
theorem neg_parent {ns : List Int} (h : ns.Nodup) {k : Int} (hk : k ∈ ns) : (placeOf (negL ns).reverse (0 - k)).1 = ((placeOf ns.reverse k).1).map fun m => 0 - m := by
  rw [parent_last (negL_nodup h) (mem_neg.mpr hk), parent_last h hk, neg_above h hk]
  unfold negL
  rw [List.getLast?_map]
theorem neg_firstB (ns : List Int) (a b : Int) : firstB (negL ns) (0 - a) (0 - b) = (firstB ns b a).map fun m => 0 - m := by
  unfold firstB firstIn negL
  rw [List.find?_map]
  congr 1
  congr 1
  funext k
  simp only [Function.comp]
  rw [Bool.eq_iff_iff]
  simp only [Bool.and_eq_true, decide_eq_true_eq]
  omega
end BstM
/-! A key that can come next. Plain Lean. -/
namespace BstM
theorem able_some {os f : List Int} : ∀ (post pre : List Int), os = pre ++ post → os.Nodup → (∀ x ∈ pre, x ∈ f) → (∃ x ∈ post, x ∉ f) → ∃ k ∈ os, k ∉ f ∧ okParent f (placeOf os.reverse k).1 = true
  | [], _, _, _, _, h => by
    obtain ⟨x, hx, _⟩ := h
    cases hx
  | x :: post, pre, e, hn, hpre, h => by
    by_cases hx : x ∈ f
    · refine able_some post (pre ++ [x]) (by rw [e]; simp) hn (fun y hy => ?_) ?_
      · rcases List.mem_append.mp hy with hy | hy
        · exact hpre y hy
        · rw [List.mem_singleton] at hy
          rw [hy]
          exact hx
      · obtain ⟨y, hy, hyf⟩ := h
        rcases List.mem_cons.mp hy with ey | hy
        · rw [ey] at hyf
          exact absurd hx hyf
        · exact ⟨y, hy, hyf⟩
    · refine ⟨x, by rw [e]; simp, hx, ?_⟩
      have hxp : x ∉ post := by
        rw [e, List.nodup_append, List.nodup_cons] at hn
        exact hn.2.1.1
      have er : os.reverse = post.reverse ++ x :: pre.reverse := by rw [e]; simp
      rw [er, placeOf_later _ _ _ (fun z => hxp (List.mem_reverse.mp z)), placeOf_head]
      cases hp : (placeR pre.reverse x).1 with
      | none => rfl
      | some m =>
        have := hpre m (List.mem_reverse.mp (placeR_mem _ _ _ hp))
        unfold okParent
        simpa using this
theorem missing {os f : List Int} (hf : f.Nodup) (hs : ∀ x ∈ f, x ∈ os) (hl : f.length < os.length) (hn : os.Nodup) : ∃ x ∈ os, x ∉ f := by
  by_cases h : ∃ x ∈ os, x ∉ f
  · exact h
  · have h2 : ∀ x ∈ os, x ∈ f := fun x hx => Classical.byContradiction fun z => h ⟨x, hx, z⟩
    have := lenSub os f hn h2
    omega
end BstM
/-! Pairs that stand in different order. Plain Lean. -/
namespace BstM
/-- the sum over all pairs of the list -/
def pairSum (w : Int → Int → Nat) : List Int → Nat
  | [] => 0
  | a :: l => (l.map (w a)).sum + pairSum w l
theorem perm_sum {l m : List Nat} (h : l.Perm m) : l.sum = m.sum := by
  induction h with
  | nil => rfl
  | cons x _ ih => rw [List.sum_cons, List.sum_cons, ih]
  | swap x y l => rw [List.sum_cons, List.sum_cons, List.sum_cons, List.sum_cons]; omega
  | trans _ _ h1 h2 => rw [h1, h2]
theorem pairSum_perm {w : Int → Int → Nat} (hw : ∀ a b, w a b = w b a) {l m : List Int} (h : l.Perm m) : pairSum w l = pairSum w m := by
  induction h with
  | nil => rfl
  | cons x p ih =>
    show ((_ : List Int).map (w x)).sum + _ = _ + _
    rw [ih, perm_sum (p.map (w x))]
  | swap x y l =>
    show ((x :: l).map (w y)).sum + ((l.map (w x)).sum + pairSum w l) = ((y :: l).map (w x)).sum + ((l.map (w y)).sum + pairSum w l)
    rw [List.map_cons, List.map_cons, List.sum_cons, List.sum_cons, hw y x]
    omega
  | trans _ _ h1 h2 => rw [h1, h2]
theorem pairSum_le {w w1 w2 : Int → Int → Nat} : ∀ l : List Int, (∀ a ∈ l, ∀ b ∈ l, w a b ≤ w1 a b + w2 a b) → pairSum w l ≤ pairSum w1 l + pairSum w2 l
  | [], _ => Nat.le_refl _
  | a :: l, h => by
    have ih := pairSum_le l fun x hx y hy => h x (List.mem_cons_of_mem _ hx) y (List.mem_cons_of_mem _ hy)
    have hs : ∀ m : List Int, (∀ b ∈ m, w a b ≤ w1 a b + w2 a b) → (m.map (w a)).sum ≤ (m.map (w1 a)).sum + (m.map (w2 a)).sum := by
      intro m
      induction m with
      | nil => intro _; exact Nat.le_refl _
      | cons b m ih2 =>
        intro hm
        have h1 := hm b List.mem_cons_self
        have h2 := ih2 fun x hx => hm x (List.mem_cons_of_mem _ hx)
        rw [List.map_cons, List.map_cons, List.map_cons, List.sum_cons, List.sum_cons, List.sum_cons]
        omega
    have h3 := hs l fun b hb => h a List.mem_cons_self b (List.mem_cons_of_mem _ hb)
    show (l.map (w a)).sum + pairSum w l ≤ ((l.map (w1 a)).sum + pairSum w1 l) + ((l.map (w2 a)).sum + pairSum w2 l)
    omega
/-- the inversions of a list of numbers -/
def invL : List Int → Nat
  | [] => 0
  | r :: l => (l.filter fun x => decide (x < r)).length + invL l
theorem invL_le : ∀ l : List Int, invL l ≤ l.length * l.length
  | [] => Nat.le_refl _
  | r :: l => by
    have h1 := invL_le l
    have h2 := List.length_filter_le (fun x => decide (x < r)) l
    show (l.filter _).length + invL l ≤ (l.length + 1) * (l.length + 1)
    rw [Nat.add_mul, Nat.mul_add]
    omega
/-- the place of a key -/
def pl (ms : List Int) (k : Int) : Nat := ms.idxOf k
theorem pl_lt {ms : List Int} {k : Int} (h : k ∈ ms) : pl ms k < ms.length := List.idxOf_lt_length_iff.mpr h
theorem pl_get {ms : List Int} {k : Int} (h : k ∈ ms) : ms[pl ms k]'(pl_lt h) = k := List.getElem_idxOf (pl_lt h)
theorem pl_ix {ms : List Int} (hn : ms.Nodup) {j : Nat} (hj : j < ms.length) : pl ms ms[j] = j := by
  have h := pl_get (List.getElem_mem hj)
  exact (List.getElem_inj hn).mp h
theorem pl_inj {ms : List Int} {a b : Int} (ha : a ∈ ms) (hb : b ∈ ms) (h : pl ms a = pl ms b) : a = b := by
  have h1 := pl_get ha
  have h2 := pl_get hb
  rw [← h1, ← h2]
  congr 1
theorem pl_asc {ms : List Int} (hn : ms.Nodup) : ms.Pairwise fun a b => pl ms a < pl ms b := by
  rw [List.pairwise_iff_getElem]
  intro i j hi hj hij
  rw [pl_ix hn hi, pl_ix hn hj]
  exact hij
def ranks (ns ms : List Int) : List Int := ns.map fun k => (pl ms k : Int)
def dist (ns ms : List Int) : Nat := invL (ranks ns ms)
/-- two keys in different order -/
def dif (ns ms : List Int) (a b : Int) : Nat := if a ≠ b ∧ (pl ns a < pl ns b ↔ ¬ pl ms a < pl ms b) then 1 else 0
theorem dist_pairs {ns ms : List Int} (hm : ∀ k ∈ ns, k ∈ ms) : ∀ l : List Int, l.Nodup → (∀ k ∈ l, k ∈ ns) → (l.Pairwise fun a b => pl ns a < pl ns b) → invL (ranks l ms) = pairSum (dif ns ms) l
  | [], _, _, _ => rfl
  | a :: l, hn, hs, hp => by
    rw [List.nodup_cons] at hn
    rw [List.pairwise_cons] at hp
    have ih := dist_pairs hm l hn.2 (fun k hk => hs k (List.mem_cons_of_mem _ hk)) hp.2
    show ((ranks l ms).filter _).length + invL (ranks l ms) = (l.map (dif ns ms a)).sum + pairSum (dif ns ms) l
    rw [ih]
    congr 1
    have gen : ∀ m : List Int, (∀ b ∈ m, b ∈ l) → ((ranks m ms).filter fun x => decide (x < (pl ms a : Int))).length = (m.map (dif ns ms a)).sum := by
      intro m
      induction m with
      | nil => intro _; rfl
      | cons b m ih2 =>
        intro hm2
        have h2 := ih2 fun x hx => hm2 x (List.mem_cons_of_mem _ hx)
        have hb : b ∈ l := hm2 b List.mem_cons_self
        have hab : a ≠ b := fun e => hn.1 (e ▸ hb)
        have hlt := hp.1 b hb
        have hne : pl ms a ≠ pl ms b := fun e => hab (pl_inj (hm a (hs a List.mem_cons_self)) (hm b (hs b (List.mem_cons_of_mem _ hb))) e)
        show (((pl ms b : Int) :: ranks m ms).filter _).length = (dif ns ms a b :: m.map (dif ns ms a)).sum
        rw [List.filter_cons, List.sum_cons, ← h2]
        by_cases h : pl ms b < pl ms a
        · have h3 : ((pl ms b : Nat) : Int) < (pl ms a : Int) := by omega
          have h4 : ¬ pl ms a < pl ms b := by omega
          rw [if_pos (decide_eq_true h3), List.length_cons]
          have : dif ns ms a b = 1 := by unfold dif; rw [if_pos]; exact ⟨hab, ⟨fun _ => h4, fun _ => hlt⟩⟩
          omega
        · have h3 : ¬ ((pl ms b : Nat) : Int) < (pl ms a : Int) := by omega
          have h4 : pl ms a < pl ms b := by omega
          rw [if_neg (by simpa using h3)]
          have : dif ns ms a b = 0 := by unfold dif; rw [if_neg]; exact fun z => z.2.mp hlt h4
          omega
    exact gen l fun _ h => h
theorem dist_eq {ns ms : List Int} (hn : ns.Nodup) (hp : ms.Perm ns) : dist ns ms = pairSum (dif ns ms) ns := dist_pairs (fun k hk => hp.mem_iff.mpr hk) ns hn (fun _ h => h) (pl_asc hn)
theorem dif_symm {ns ms : List Int} (a b : Int) (ha : a ∈ ns) (hb : b ∈ ns) (hm : ∀ k, k ∈ ns → k ∈ ms) : dif ns ms a b = dif ns ms b a := by
  unfold dif
  by_cases e : a = b
  · subst e
    rfl
  · have h1 : pl ns a ≠ pl ns b := fun z => e (pl_inj ha hb z)
    have h2 : pl ms a ≠ pl ms b := fun z => e (pl_inj (hm a ha) (hm b hb) z)
    congr 1
    refine propext ⟨fun z => ⟨fun z2 => z.1 z2.symm, ?_⟩, fun z => ⟨fun z2 => z.1 z2.symm, ?_⟩⟩
    · have := z.2
      omega
    · have := z.2
      omega
/-- only pairs of keys count -/
def dif' (ns ms : List Int) (a b : Int) : Nat := if a ∈ ns ∧ b ∈ ns then dif ns ms a b else 0
theorem pairSum_congr {w w' : Int → Int → Nat} : ∀ l : List Int, (∀ a ∈ l, ∀ b ∈ l, w a b = w' a b) → pairSum w l = pairSum w' l
  | [], _ => rfl
  | a :: l, h => by
    show (l.map (w a)).sum + pairSum w l = (l.map (w' a)).sum + pairSum w' l
    rw [pairSum_congr l fun x hx y hy => h x (List.mem_cons_of_mem _ hx) y (List.mem_cons_of_mem _ hy), List.map_congr_left fun b hb => h a List.mem_cons_self b (List.mem_cons_of_mem _ hb)]
theorem pairSum_dif {ns ms l : List Int} (hp : l.Perm ns) (hm : ∀ k, k ∈ ns → k ∈ ms) : pairSum (dif ns ms) l = pairSum (dif ns ms) ns := by
  have h1 : ∀ m : List Int, (∀ k ∈ m, k ∈ ns) → pairSum (dif ns ms) m = pairSum (dif' ns ms) m := fun m h => pairSum_congr m fun a ha b hb => by
    unfold dif'
    rw [if_pos ⟨h a ha, h b hb⟩]
  rw [h1 l fun k hk => hp.mem_iff.mp hk, h1 ns fun _ h => h]
  refine pairSum_perm (fun a b => ?_) hp
  unfold dif'
  by_cases h : a ∈ ns ∧ b ∈ ns
  · rw [if_pos h, if_pos ⟨h.2, h.1⟩, dif_symm a b h.1 h.2 hm]
  · rw [if_neg h, if_neg (fun z => h ⟨z.2, z.1⟩)]
theorem dif_flip (ns ms : List Int) (a b : Int) : dif ns ms a b = dif ms ns a b := by
  unfold dif
  congr 1
  refine propext ⟨fun z => ⟨z.1, ?_⟩, fun z => ⟨z.1, ?_⟩⟩
  · have := z.2
    omega
  · have := z.2
    omega
theorem dist_symm {ns ms : List Int} (hn : ns.Nodup) (hp : ms.Perm ns) : dist ms ns = dist ns ms := by
  have hm : ms.Nodup := hp.nodup_iff.mpr hn
  rw [dist_eq hm hp.symm, dist_eq hn hp, ← pairSum_dif hp fun k hk => hp.mem_iff.mpr hk]
  exact pairSum_congr ms fun a _ b _ => (dif_flip ns ms a b).symm
theorem dist_tri {ns ms ts : List Int} (hn : ns.Nodup) (hp : ms.Perm ns) (hq : ts.Perm ns) : dist ns ms ≤ dist ns ts + dist ts ms := by
  have ht : ts.Nodup := hq.nodup_iff.mpr hn
  have hmt : ms.Perm ts := hp.trans hq.symm
  rw [dist_eq hn hp, dist_eq hn hq, dist_eq ht hmt, ← pairSum_dif (ns := ts) (ms := ms) (l := ns) hq.symm fun k hk => hmt.mem_iff.mpr hk]
  refine pairSum_le ns fun a ha b hb => ?_
  unfold dif
  by_cases e : a = b
  · rw [if_neg (fun z => z.1 e)]
    omega
  · by_cases h1 : a ≠ b ∧ (pl ns a < pl ns b ↔ ¬ pl ms a < pl ms b)
    · rw [if_pos h1]
      by_cases h2 : a ≠ b ∧ (pl ns a < pl ns b ↔ ¬ pl ts a < pl ts b)
      · rw [if_pos h2]
        omega
      · rw [if_neg h2, if_pos]
        · omega
        · refine ⟨e, ?_⟩
          have h3 := h1.2
          have h4 : ¬ (pl ns a < pl ns b ↔ ¬ pl ts a < pl ts b) := fun z => h2 ⟨e, z⟩
          omega
    · rw [if_neg h1]
      omega
theorem dist_self {ns : List Int} (hn : ns.Nodup) : dist ns ns = 0 := by
  rw [dist_eq hn (.refl _)]
  have : pairSum (dif ns ns) ns = pairSum (fun _ _ => 0) ns := pairSum_congr ns fun a _ b _ => by
    unfold dif
    rw [if_neg]
    omega
  rw [this]
  have z : ∀ l : List Int, pairSum (fun _ _ => 0) l = 0 := by
    intro l
    induction l with
    | nil => rfl
    | cons a l ih =>
      show (l.map fun _ => 0).sum + pairSum (fun _ _ => 0) l = 0
      rw [ih]
      induction l with
      | nil => rfl
      | cons b l ih2 =>
        rw [List.map_cons, List.sum_cons]
        have : pairSum (fun _ _ => 0) l = 0 := by
          have h1 : (l.map fun _ => 0).sum + pairSum (fun _ _ => 0) l = 0 := ih
          omega
        have h2 := ih2 this
        omega
  exact z ns
theorem invL_zero : ∀ l : List Int, invL l = 0 → l.Pairwise (· ≤ ·)
  | [], _ => .nil
  | r :: l, h => by
    have h0 : (l.filter fun x => decide (x < r)).length + invL l = 0 := h
    rw [List.pairwise_cons]
    refine ⟨fun x hx => ?_, invL_zero l (by omega)⟩
    have h1 : l.filter (fun x => decide (x < r)) = [] := List.length_eq_zero_iff.mp (by omega)
    have := List.filter_eq_nil_iff.mp h1 x hx
    simp at this
    exact this
theorem dist_zero {ns ms : List Int} (hn : ns.Nodup) (hp : ms.Perm ns) (h : dist ns ms = 0) : ns = ms := by
  have h1 := invL_zero _ h
  unfold ranks at h1
  rw [List.pairwise_map] at h1
  have hm : ms.Nodup := hp.nodup_iff.mpr hn
  have h2 := (pl_asc hm).imp (S := fun a b => ((pl ms a : Nat) : Int) ≤ (pl ms b : Int)) fun z => by omega
  refine List.Perm.eq_of_pairwise (le := fun a b => ((pl ms a : Nat) : Int) ≤ (pl ms b : Int)) (fun a b ha hb h3 h4 => ?_) h1 h2 hp.symm
  exact pl_inj (hp.mem_iff.mpr ha) hb (by omega)
theorem invL_desc : ∀ l : List Int, (l.Pairwise fun a b => b < a) → invL l = l.length * (l.length - 1) / 2
  | [], _ => rfl
  | r :: l, h => by
    rw [List.pairwise_cons] at h
    have ih := invL_desc l h.2
    have h1 : l.filter (fun x => decide (x < r)) = l := List.filter_eq_self.mpr fun x hx => decide_eq_true (h.1 x hx)
    show (l.filter fun x => decide (x < r)).length + invL l = (l.length + 1) * (l.length + 1 - 1) / 2
    rw [h1, ih, Nat.add_sub_cancel]
    cases hl : l.length with
    | zero => rfl
    | succ n =>
      rw [Nat.add_sub_cancel]
      have e : (n + 1 + 1) * (n + 1) = (n + 1) * n + (n + 1) * 2 := by rw [← Nat.mul_add, Nat.mul_comm]
      rw [e, Nat.add_mul_div_right _ _ (by decide)]
      omega
theorem dist_rev {ns : List Int} (hn : ns.Nodup) : dist ns ns.reverse = ns.length * (ns.length - 1) / 2 := by
  have hr : ns.reverse.Nodup := by unfold List.Nodup at hn ⊢; rw [List.pairwise_reverse]; exact hn.imp fun z e => z e.symm
  have h1 := pl_asc hr
  rw [List.pairwise_reverse] at h1
  unfold dist
  rw [invL_desc]
  · unfold ranks
    rw [List.length_map]
  · unfold ranks
    rw [List.pairwise_map]
    exact h1.imp fun z => by omega
end BstM
/-! How many orders a tree has: hook lengths. Plain Lean. -/
namespace BstM
def sumN (l : List Int) (g : Int → Nat) : Nat := (l.map g).sum
theorem sumN_cons (a : Int) (l : List Int) (g : Int → Nat) : sumN (a :: l) g = g a + sumN l g := by unfold sumN; rw [List.map_cons, List.sum_cons]
theorem sumN_perm {l m : List Int} (h : l.Perm m) (g : Int → Nat) : sumN l g = sumN m g := perm_sum (h.map g)
theorem sumN_congr {l : List Int} {g g' : Int → Nat} (h : ∀ a ∈ l, g a = g' a) : sumN l g = sumN l g' := by unfold sumN; rw [List.map_congr_left h]
theorem sumN_add : ∀ (l : List Int) (g g' : Int → Nat), sumN l (fun a => g a + g' a) = sumN l g + sumN l g'
  | [], _, _ => rfl
  | a :: l, g, g' => by rw [sumN_cons, sumN_cons, sumN_cons, sumN_add l g g']; omega
theorem sumN_mul : ∀ (l : List Int) (g : Int → Nat) (c : Nat), sumN l (fun a => g a * c) = sumN l g * c
  | [], _, c => by simp [sumN]
  | a :: l, g, c => by rw [sumN_cons, sumN_cons, sumN_mul l g c, Nat.add_mul]
theorem sumN_zero : ∀ (l : List Int), sumN l (fun _ => 0) = 0
  | [] => rfl
  | a :: l => by rw [sumN_cons, sumN_zero l]
theorem sumN_one : ∀ (l : List Int), sumN l (fun _ => 1) = l.length
  | [] => rfl
  | a :: l => by rw [sumN_cons, sumN_one l, List.length_cons]; omega
/-- a sum over those that pass -/
theorem sumN_filter (p : Int → Bool) (g : Int → Nat) : ∀ l : List Int, sumN (l.filter p) g = sumN l fun a => if p a then g a else 0
  | [] => rfl
  | a :: l => by
    rw [List.filter_cons, sumN_cons]
    cases h : p a with
    | true => simp only [↓reduceIte]; rw [sumN_cons, sumN_filter p g l]
    | false => simp only [Bool.false_eq_true, ↓reduceIte]; rw [sumN_filter p g l]; omega
/-- counted by rows or by columns -/
theorem sumN_swap (R : Int → Int → Bool) : ∀ (A B : List Int), sumN A (fun a => (B.filter fun b => R a b).length) = sumN B fun b => (A.filter fun a => R a b).length
  | [], B => by
    have : sumN B (fun b => (([] : List Int).filter fun a => R a b).length) = sumN B fun _ => 0 := sumN_congr fun _ _ => rfl
    rw [this, sumN_zero]
    rfl
  | a :: A, B => by
    rw [sumN_cons, sumN_swap R A B]
    have e : sumN B (fun b => ((a :: A).filter fun a => R a b).length) = sumN B fun b => (if R a b then 1 else 0) + (A.filter fun a => R a b).length := sumN_congr fun b _ => by
      rw [List.filter_cons]
      cases R a b <;> simp <;> omega
    rw [e, sumN_add]
    congr 1
    rw [← sumN_one, sumN_filter]
/-! ### what is left of a tree -/
section
variable (os : List Int)
/-- the parent of a key in the tree of the order -/
def par (k : Int) : Option Int := (placeOf os.reverse k).1
/-- how many keys a key is equal to or above -/
def sz (k : Int) : Nat := (os.filter fun x => decide (k ∈ pathUp os.reverse x)).length
/-- the keys that are left -/
def rem (f : List Int) : List Int := os.filter fun k => !decide (k ∈ f)
/-- those of them that can come next -/
def free (f : List Int) : List Int := (rem os f).filter fun k => okParent f (par os k)
structure Closed (f : List Int) : Prop where
  nd : f.Nodup
  sub : ∀ k ∈ f, k ∈ os
  up : ∀ k ∈ f, ∀ m, par os k = some m → m ∈ f
end
variable {os : List Int}
theorem mem_rem {f : List Int} {k : Int} : k ∈ rem os f ↔ k ∈ os ∧ k ∉ f := by
  unfold rem
  rw [List.mem_filter]
  simp
theorem mem_free {f : List Int} {k : Int} : k ∈ free os f ↔ k ∈ os ∧ k ∉ f ∧ okParent f (par os k) = true := by
  unfold free
  rw [List.mem_filter, mem_rem]
  exact and_assoc
theorem Closed.nil : Closed os [] := ⟨List.nodup_nil, fun _ h => (nomatch h), fun _ h => (nomatch h)⟩
theorem ok_iff {f : List Int} {o : Option Int} : okParent f o = true ↔ ∀ m, o = some m → m ∈ f := by
  cases o with
  | none => exact ⟨fun _ m e => (nomatch e), fun _ => rfl⟩
  | some x =>
    show decide (x ∈ f) = true ↔ _
    rw [decide_eq_true_iff]
    exact ⟨fun h m e => by cases e; exact h, fun h => h x rfl⟩
theorem Closed.cons {f : List Int} (c : Closed os f) {k : Int} (hk : k ∈ free os f) : Closed os (k :: f) := by
  obtain ⟨h1, h2, h3⟩ := mem_free.mp hk
  refine ⟨List.nodup_cons.mpr ⟨h2, c.nd⟩, fun x hx => ?_, fun x hx m hm => ?_⟩
  · rcases List.mem_cons.mp hx with e | hx
    · rw [e]; exact h1
    · exact c.sub x hx
  · rcases List.mem_cons.mp hx with e | hx
    · subst e
      exact List.mem_cons_of_mem _ (ok_iff.mp h3 m hm)
    · exact List.mem_cons_of_mem _ (c.up x hx m hm)
/-- with a key all above it -/
theorem Closed.path {f : List Int} (c : Closed os f) (hn : os.Nodup) : ∀ (n : Nat) (x : Int), x ∈ os → dep os.reverse x = n → x ∈ f → ∀ y ∈ pathUp os.reverse x, y ∈ f := by
  have hr := revNodup hn
  intro n
  induction n with
  | zero =>
    intro x hx hd hxf y hy
    rw [pathUp_eq _ hr x (List.mem_reverse.mpr hx)] at hy
    rcases List.mem_cons.mp hy with e | hy
    · rw [e]; exact hxf
    · have h1 := dep_eq _ hr x (List.mem_reverse.mpr hx)
      cases hp : (placeOf os.reverse x).1 with
      | none => rw [hp] at hy; exact nomatch hy
      | some m => rw [hp] at h1; simp only at h1; omega
  | succ n ih =>
    intro x hx hd hxf y hy
    rw [pathUp_eq _ hr x (List.mem_reverse.mpr hx)] at hy
    rcases List.mem_cons.mp hy with e | hy
    · rw [e]; exact hxf
    · have h1 := dep_eq _ hr x (List.mem_reverse.mpr hx)
      cases hp : (placeOf os.reverse x).1 with
      | none => rw [hp] at hy; exact nomatch hy
      | some m =>
        rw [hp] at hy h1
        simp only at h1
        exact ih m (List.mem_reverse.mp (placeOf_mem hp)) (by omega) (c.up x hxf m hp) y hy
/-- exactly one of the free keys is on the path of a key that is left -/
theorem one_free {f : List Int} (c : Closed os f) (hn : os.Nodup) : ∀ (n : Nat) (x : Int), x ∈ os → dep os.reverse x = n → x ∉ f → ∃ k, k ∈ free os f ∧ k ∈ pathUp os.reverse x ∧ ∀ k' ∈ free os f, k' ∈ pathUp os.reverse x → k' = k := by
  have hr := revNodup hn
  intro n
  induction n with
  | zero =>
    intro x hx hd hxf
    have h1 := dep_eq _ hr x (List.mem_reverse.mpr hx)
    have hpu := pathUp_eq _ hr x (List.mem_reverse.mpr hx)
    cases hp : (placeOf os.reverse x).1 with
    | some m => rw [hp] at h1; simp only at h1; omega
    | none =>
      rw [hp] at hpu
      have hpu' : pathUp os.reverse x = [x] := hpu
      refine ⟨x, mem_free.mpr ⟨hx, hxf, ?_⟩, by rw [hpu']; exact List.mem_cons_self, fun k' _ hk' => ?_⟩
      · show okParent f (placeOf os.reverse x).1 = true
        rw [hp]
        rfl
      · rw [hpu', List.mem_singleton] at hk'
        exact hk'
  | succ n ih =>
    intro x hx hd hxf
    have h1 := dep_eq _ hr x (List.mem_reverse.mpr hx)
    have hpu := pathUp_eq _ hr x (List.mem_reverse.mpr hx)
    cases hp : (placeOf os.reverse x).1 with
    | none => rw [hp] at h1; simp only at h1; omega
    | some m =>
      rw [hp] at hpu h1
      simp only at h1
      have hpu' : pathUp os.reverse x = x :: pathUp os.reverse m := hpu
      have hm : m ∈ os := List.mem_reverse.mp (placeOf_mem hp)
      by_cases hmf : m ∈ f
      · refine ⟨x, mem_free.mpr ⟨hx, hxf, ?_⟩, by rw [hpu']; exact List.mem_cons_self, fun k' hk1 hk' => ?_⟩
        · refine ok_iff.mpr fun y hy => ?_
          rw [show par os x = some m from hp] at hy
          cases hy
          exact hmf
        · rw [hpu'] at hk'
          rcases List.mem_cons.mp hk' with e | hk'
          · exact e
          · exact absurd (c.path hn _ m hm rfl hmf k' hk') (mem_free.mp hk1).2.1
      · obtain ⟨k, hk1, hk2, hk3⟩ := ih m hm (by omega) hmf
        refine ⟨k, hk1, by rw [hpu']; exact List.mem_cons_of_mem _ hk2, fun k' hk'1 hk' => ?_⟩
        rw [hpu'] at hk'
        rcases List.mem_cons.mp hk' with e | hk'
        · subst e
          have := ok_iff.mp (mem_free.mp hk'1).2.2 m hp
          exact absurd this hmf
        · exact hk3 k' hk'1 hk'
theorem filter_one {l : List Int} {p : Int → Bool} {k : Int} (hn : l.Nodup) (hk : k ∈ l) (hp : p k = true) (hu : ∀ k' ∈ l, p k' = true → k' = k) : (l.filter p).length = 1 := by
  rw [filter_single hn hk fun x hx => ⟨fun h => hu x hx h, fun e => by rw [e]; exact hp⟩]
  rfl
theorem rem_nodup {f : List Int} (hn : os.Nodup) : (rem os f).Nodup := hn.sublist List.filter_sublist
theorem free_nodup {f : List Int} (hn : os.Nodup) : (free os f).Nodup := (rem_nodup hn).sublist List.filter_sublist
/-- the sizes of the free keys are the number of keys that are left -/
theorem sizes_free {f : List Int} (c : Closed os f) (hn : os.Nodup) : sumN (free os f) (sz os) = (rem os f).length := by
  have h1 : sumN (free os f) (sz os) = sumN (free os f) fun k => ((rem os f).filter fun x => decide (k ∈ pathUp os.reverse x)).length := sumN_congr fun k hk => by
    unfold sz rem
    rw [List.filter_filter]
    congr 1
    refine List.filter_congr fun x hx => ?_
    by_cases hp : k ∈ pathUp os.reverse x
    · have : x ∉ f := fun hxf => (mem_free.mp hk).2.1 (c.path hn _ x hx rfl hxf k hp)
      simp [hp, this]
    · simp [hp]
  rw [h1, sumN_swap (fun k x => decide (k ∈ pathUp os.reverse x))]
  rw [← sumN_one]
  refine sumN_congr fun x hx => ?_
  obtain ⟨hx1, hx2⟩ := mem_rem.mp hx
  obtain ⟨k, hk1, hk2, hk3⟩ := one_free c hn _ x hx1 rfl hx2
  exact filter_one (free_nodup hn) hk1 (decide_eq_true hk2) fun k' hk' h' => hk3 k' hk' (of_decide_eq_true h')
/-- how many ways there are to go on -/
def ext (os : List Int) : Nat → List Int → Nat
  | 0, _ => 1
  | m + 1, f => sumN (free os f) fun k => ext os m (k :: f)
def prodN (l : List Int) (g : Int → Nat) : Nat := l.foldr (fun a p => g a * p) 1
theorem prodN_cons (a : Int) (l : List Int) (g : Int → Nat) : prodN (a :: l) g = g a * prodN l g := rfl
theorem prodN_perm {l m : List Int} (h : l.Perm m) (g : Int → Nat) : prodN l g = prodN m g := by
  induction h with
  | nil => rfl
  | cons x _ ih => rw [prodN_cons, prodN_cons, ih]
  | swap x y l => rw [prodN_cons, prodN_cons, prodN_cons, prodN_cons, ← Nat.mul_assoc, ← Nat.mul_assoc, Nat.mul_comm (g y)]
  | trans _ _ h1 h2 => rw [h1, h2]
def fact : Nat → Nat
  | 0 => 1
  | n + 1 => (n + 1) * fact n
theorem rem_cons {f : List Int} (hn : os.Nodup) {k : Int} (hk : k ∈ rem os f) : (rem os f).Perm (k :: rem os (k :: f)) := by
  refine (List.perm_ext_iff_of_nodup (rem_nodup hn) (List.nodup_cons.mpr ⟨fun z => (mem_rem.mp z).2 List.mem_cons_self, rem_nodup hn⟩)).mpr fun x => ?_
  rw [List.mem_cons, mem_rem, mem_rem, List.mem_cons]
  constructor
  · rintro ⟨h1, h2⟩
    by_cases e : x = k
    · exact .inl e
    · exact .inr ⟨h1, fun z => z.elim e h2⟩
  · rintro (e | ⟨h1, h2⟩)
    · subst e
      exact mem_rem.mp hk
    · exact ⟨h1, fun z => h2 (.inr z)⟩
/-- the hook lengths -/
theorem hook (hn : os.Nodup) : ∀ (m : Nat) (f : List Int), Closed os f → (rem os f).length = m → ext os m f * prodN (rem os f) (sz os) = fact m
  | 0, f, _, hl => by
    rw [List.length_eq_zero_iff.mp hl]
    rfl
  | m + 1, f, c, hl => by
    show sumN (free os f) (fun k => ext os m (k :: f)) * prodN (rem os f) (sz os) = (m + 1) * fact m
    rw [← sumN_mul]
    have h1 : sumN (free os f) (fun k => ext os m (k :: f) * prodN (rem os f) (sz os)) = sumN (free os f) fun k => sz os k * fact m := sumN_congr fun k hk => by
      have hkr : k ∈ rem os f := (List.mem_filter.mp hk).1
      have hp := rem_cons hn hkr
      have hl2 : (rem os (k :: f)).length = m := by
        have := hp.length_eq
        rw [List.length_cons] at this
        omega
      have ih := hook hn m (k :: f) (c.cons hk) hl2
      rw [prodN_perm hp, prodN_cons, ← ih]
      rw [← Nat.mul_assoc, ← Nat.mul_assoc, Nat.mul_comm (ext os m (k :: f))]
    rw [h1, sumN_mul, sizes_free c hn, hl]
theorem sz_pos (hn : os.Nodup) {k : Int} (hk : k ∈ os) : 0 < sz os k := by
  unfold sz
  refine List.length_pos_of_mem (List.mem_filter.mpr ⟨hk, decide_eq_true ?_⟩)
  rw [pathUp_eq _ (revNodup hn) k (List.mem_reverse.mpr hk)]
  exact List.mem_cons_self
theorem prodN_pos {l : List Int} {g : Int → Nat} : (∀ a ∈ l, 0 < g a) → 0 < prodN l g := by
  induction l with
  | nil => intro _; exact Nat.one_pos
  | cons a l ih => intro h; exact Nat.mul_pos (h a List.mem_cons_self) (ih fun x hx => h x (List.mem_cons_of_mem _ hx))
theorem prod_rem_pos (hn : os.Nodup) (f : List Int) : 0 < prodN (rem os f) (sz os) := prodN_pos fun k hk => sz_pos hn (mem_rem.mp hk).1
theorem ext_eq (hn : os.Nodup) {f : List Int} (c : Closed os f) : ext os (rem os f).length f = fact (rem os f).length / prodN (rem os f) (sz os) := by
  have h := hook hn _ f c rfl
  rw [← h, Nat.mul_div_cancel _ (prod_rem_pos hn f)]
/-- a free key's share of the ways to go on -/
theorem share_eq (hn : os.Nodup) {f : List Int} (c : Closed os f) {m : Nat} (hm : (rem os f).length = m + 1) {k : Int} (hk : k ∈ free os f) : ext os (m + 1) f * sz os k = ext os m (k :: f) * (m + 1) := by
  have hkr : k ∈ rem os f := (List.mem_filter.mp hk).1
  have hp := rem_cons hn hkr
  have hl2 : (rem os (k :: f)).length = m := by
    have := hp.length_eq
    rw [List.length_cons] at this
    omega
  have h1 := hook hn (m + 1) f c hm
  have h2 := hook hn m (k :: f) (c.cons hk) hl2
  rw [prodN_perm hp, prodN_cons] at h1
  have hpos := prod_rem_pos hn (k :: f)
  refine Nat.eq_of_mul_eq_mul_right hpos ?_
  rw [Nat.mul_assoc, h1]
  show (m + 1) * fact m = _
  rw [← h2, Nat.mul_right_comm, Nat.mul_comm]
end BstM
/-! The orders of all keys that build a tree, counted. Plain Lean. -/
namespace BstM
theorem later_congr {r r' : List Int} : ∀ q : List Int, (∀ y ∈ q, (placeOf r y).1 = (placeOf r' y).1) → Later r q → Later r' q
  | [], _, _ => trivial
  | x :: q, h, hl => ⟨fun m hm => hl.1 m (by rw [h x List.mem_cons_self]; exact hm), later_congr q (fun y hy => h y (List.mem_cons_of_mem _ hy)) hl.2⟩
/-- in an order parents come before their children -/
theorem own_later : ∀ q : List Int, q.Nodup → Later q q
  | [], _ => trivial
  | x :: q, hn => by
    rw [List.nodup_cons] at hn
    refine ⟨fun m hm => ?_, later_congr (r := q) q (fun y hy => ?_) (own_later q hn.2)⟩
    · rw [placeOf_head] at hm
      exact placeR_mem q x m hm
    · rw [placeOf_tail fun e => hn.1 (by rw [← e]; exact hy)]
def laterB (os : List Int) : List Int → Bool
  | [] => true
  | x :: q => okParent q (par os x) && laterB os q
theorem laterB_iff {os : List Int} : ∀ q : List Int, laterB os q = true ↔ Later os.reverse q
  | [] => ⟨fun _ => trivial, fun _ => rfl⟩
  | x :: q => by
    unfold laterB
    rw [Bool.and_eq_true, ok_iff, laterB_iff q]
    exact Iff.rfl
/-- an order of the same keys builds the same tree just if parents come before their children -/
theorem same_iff {os s : List Int} (hn : os.Nodup) (hs : s.Perm os) : (∀ k ∈ s, (placeOf s.reverse k).1 = (placeOf os.reverse k).1) ↔ laterB os s.reverse = true := by
  have hsn : s.Nodup := hs.nodup_iff.mpr hn
  rw [laterB_iff]
  constructor
  · intro h
    exact later_congr s.reverse (fun y hy => h y (List.mem_reverse.mp hy)) (own_later _ (revNodup hsn))
  · intro h k hk
    rw [(rebuild os.reverse (revNodup hn) s.reverse (revNodup hsn) (fun x hx => List.mem_reverse.mpr (hs.mem_iff.mp (List.mem_reverse.mp hx))) h).2 k (List.mem_reverse.mpr hk)]
section
variable (ms : List Int)
/-- all ways to go on, last key first -/
def comp : Nat → List Int → List (List Int)
  | 0, q => [q]
  | m + 1, q => (ms.filter fun k => !decide (k ∈ q)).flatMap fun k => comp m (k :: q)
def layer : Nat → List (List Int)
  | 0 => [[]]
  | t + 1 => (layer t).flatMap fun s => (ms.filter fun k => !decide (k ∈ s)).map fun k => s ++ [k]
end
variable {os ms : List Int}
theorem countP_fm (p : List Int → Bool) (f : Int → List (List Int)) : ∀ l : List Int, (l.flatMap f).countP p = sumN l fun k => (f k).countP p
  | [] => rfl
  | a :: l => by rw [List.flatMap_cons, List.countP_append, sumN_cons, countP_fm p f l]
theorem comp_none : ∀ (m : Nat) (q : List Int), laterB os q = false → (comp ms m q).countP (laterB os) = 0
  | 0, q, h => by
    show [q].countP (laterB os) = 0
    rw [List.countP_singleton, h]
    rfl
  | m + 1, q, h => by
    show (List.flatMap _ _).countP _ = 0
    rw [countP_fm, ← sumN_zero (ms.filter fun k => !decide (k ∈ q))]
    refine sumN_congr fun k _ => comp_none m (k :: q) ?_
    unfold laterB
    rw [h, Bool.and_false]
theorem comp_count (hp : ms.Perm os) : ∀ (m : Nat) (q : List Int), laterB os q = true → (comp ms m q).countP (laterB os) = ext os m q
  | 0, q, h => by
    show [q].countP (laterB os) = 1
    rw [List.countP_singleton, h]
    rfl
  | m + 1, q, h => by
    show (List.flatMap _ _).countP _ = sumN (free os q) fun k => ext os m (k :: q)
    rw [countP_fm]
    have e : sumN (ms.filter fun k => !decide (k ∈ q)) (fun k => (comp ms m (k :: q)).countP (laterB os)) = sumN (ms.filter fun k => !decide (k ∈ q)) fun k => if okParent q (par os k) = true then ext os m (k :: q) else 0 := sumN_congr fun k _ => by
      cases ho : okParent q (par os k) with
      | true => rw [if_pos rfl]; exact comp_count hp m (k :: q) (by unfold laterB; rw [ho, h]; rfl)
      | false => rw [if_neg (by decide)]; exact comp_none m (k :: q) (by unfold laterB; rw [ho]; rfl)
    rw [e, sumN_perm (hp.filter _)]
    exact (sumN_filter (fun k => okParent q (par os k)) (fun k => ext os m (k :: q)) (rem os q)).symm
theorem comp_layer : ∀ (t m : Nat), comp ms (t + m) [] = (layer ms t).flatMap fun s => comp ms m s.reverse
  | 0, m => by
    rw [Nat.zero_add]
    show _ = [[]].flatMap _
    rw [List.flatMap_cons, List.flatMap_nil, List.append_nil]
    rfl
  | t + 1, m => by
    rw [Nat.succ_add_eq_add_succ, comp_layer t (m + 1)]
    show _ = (List.flatMap _ _).flatMap _
    rw [List.flatMap_assoc]
    congr 1
    funext s
    show (List.filter _ ms).flatMap _ = _
    rw [List.flatMap_map]
    have : (fun k => !decide (k ∈ s.reverse)) = fun k => !decide (k ∈ s) := by
      funext k
      rw [decide_eq_decide.mpr List.mem_reverse]
    rw [this]
    congr 1
    funext k
    rw [List.reverse_append]
    rfl
theorem comp_eq (t : Nat) : comp ms t [] = (layer ms t).map List.reverse := by
  have := comp_layer (ms := ms) t 0
  rw [Nat.add_zero] at this
  rw [this]
  show (layer ms t).flatMap (fun s => [s.reverse]) = _
  generalize layer ms t = l
  induction l with
  | nil => rfl
  | cons a l ih => rw [List.flatMap_cons, ih]; rfl
theorem layer_mem : ∀ (t : Nat) (s : List Int), s ∈ layer ms t → s.Nodup ∧ s.length = t ∧ ∀ x ∈ s, x ∈ ms
  | 0, s, h => by
    rw [List.mem_singleton.mp h]
    exact ⟨List.nodup_nil, rfl, fun x hx => nomatch hx⟩
  | t + 1, s, h => by
    obtain ⟨s', h1, h2⟩ := List.mem_flatMap.mp h
    obtain ⟨k, h3, rfl⟩ := List.mem_map.mp h2
    obtain ⟨h4, h5⟩ := List.mem_filter.mp h3
    have h5 : k ∉ s' := by simpa using h5
    obtain ⟨g1, g2, g3⟩ := layer_mem t s' h1
    refine ⟨?_, by rw [List.length_append, g2]; rfl, fun x hx => ?_⟩
    · rw [List.nodup_append]
      refine ⟨g1, by simp, fun a ha b hb e => ?_⟩
      rw [List.mem_singleton] at hb
      rw [e, hb] at ha
      exact h5 ha
    · rcases List.mem_append.mp hx with hx | hx
      · exact g3 x hx
      · rw [List.mem_singleton.mp hx]; exact h4
theorem layer_perm (hm : ms.Nodup) {s : List Int} (h : s ∈ layer ms ms.length) : s.Perm ms := by
  obtain ⟨h1, h2, h3⟩ := layer_mem _ s h
  refine (List.perm_ext_iff_of_nodup h1 hm).mpr fun x => ⟨h3 x, fun hx => Classical.byContradiction fun hno => ?_⟩
  have := lenSub (x :: s) ms (List.nodup_cons.mpr ⟨hno, h1⟩) fun y hy => by
    rcases List.mem_cons.mp hy with e | hy
    · rw [e]; exact hx
    · exact h3 y hy
  rw [List.length_cons, h2] at this
  omega
/-- how many of all orders of the keys build the tree -/
theorem orders_counted (hn : os.Nodup) (hp : ms.Perm os) (p : List Int → Bool) (hq : ∀ s, s.Perm ms → (p s = true ↔ ∀ k ∈ s, (placeOf s.reverse k).1 = (placeOf os.reverse k).1)) : (layer ms ms.length).countP p = fact os.length / prodN os (sz os) := by
  have hm : ms.Nodup := hp.nodup_iff.mpr hn
  have h1 : (layer ms ms.length).countP p = (comp ms ms.length []).countP (laterB os) := by
    rw [comp_eq, List.countP_map]
    refine List.countP_congr fun s hs => ?_
    have hsp := layer_perm hm hs
    rw [hq s hsp, same_iff hn (hsp.trans hp)]
    exact Iff.rfl
  have hr : rem os [] = os := by
    unfold rem
    exact List.filter_eq_self.mpr fun a _ => rfl
  rw [h1, comp_count hp _ [] rfl, hp.length_eq]
  have := ext_eq hn (Closed.nil (os := os))
  rw [hr] at this
  exact this
end BstM
/-! How many orders of all keys there are. Plain Lean. -/
namespace BstM
theorem filter_out {ms s : List Int} (hm : ms.Nodup) (hs : s.Nodup) (hsub : ∀ x ∈ s, x ∈ ms) : (ms.filter fun k => !decide (k ∈ s)).length + s.length = ms.length := by
  have hp : ((ms.filter fun k => !decide (k ∈ s)) ++ s).Perm ms := by
    refine (List.perm_ext_iff_of_nodup ?_ hm).mpr fun x => ?_
    · rw [List.nodup_append]
      refine ⟨hm.sublist List.filter_sublist, hs, fun a ha b hb e => ?_⟩
      have := (List.mem_filter.mp ha).2
      rw [e] at this
      simp [hb] at this
    · rw [List.mem_append, List.mem_filter]
      constructor
      · rintro (⟨h, _⟩ | h)
        · exact h
        · exact hsub x h
      · intro h
        by_cases hx : x ∈ s
        · exact .inr hx
        · exact .inl ⟨h, by simp [hx]⟩
  have := hp.length_eq
  rw [List.length_append] at this
  exact this
theorem len_fm {α β : Type} (f : α → List β) (c : Nat) : ∀ l : List α, (∀ a ∈ l, (f a).length = c) → (l.flatMap f).length = l.length * c
  | [], _ => by simp
  | a :: l, h => by rw [List.flatMap_cons, List.length_append, h a List.mem_cons_self, len_fm f c l fun x hx => h x (List.mem_cons_of_mem _ hx), List.length_cons, Nat.add_mul]; omega
theorem layer_len {ms : List Int} (hm : ms.Nodup) : ∀ t, t ≤ ms.length → (layer ms t).length * fact (ms.length - t) = fact ms.length
  | 0, _ => by show 1 * _ = _; rw [Nat.one_mul, Nat.sub_zero]
  | t + 1, h => by
    have ih := layer_len hm t (by omega)
    have e : (layer ms (t + 1)).length = (layer ms t).length * (ms.length - t) := by
      refine len_fm _ _ _ fun s hs => ?_
      obtain ⟨h1, h2, h3⟩ := layer_mem t s hs
      have := filter_out hm h1 h3
      rw [List.length_map]
      omega
    obtain ⟨m, hm'⟩ : ∃ m, ms.length - t = m + 1 := ⟨ms.length - t - 1, by omega⟩
    rw [hm'] at ih e
    have e2 : ms.length - (t + 1) = m := by omega
    rw [e, e2, ← ih, Nat.mul_assoc]
    rfl
theorem fact_pos : ∀ n, 0 < fact n
  | 0 => Nat.one_pos
  | n + 1 => Nat.mul_pos (Nat.succ_pos _) (fact_pos n)
theorem layer_le {ms : List Int} (hm : ms.Nodup) {t : Nat} (h : t ≤ ms.length) : (layer ms t).length ≤ fact ms.length := by
  rw [← layer_len hm t h]
  exact Nat.le_mul_of_pos_right _ (fact_pos _)
theorem fact_mono : ∀ {n m : Nat}, n ≤ m → fact n ≤ fact m := by
  intro n m h
  induction h with
  | refl => exact Nat.le_refl _
  | step _ ih => exact Nat.le_trans ih (Nat.le_mul_of_pos_left _ (Nat.succ_pos _))
theorem layer_720 {ms : List Int} (hm : ms.Nodup) (h6 : ms.length ≤ 6) {t : Nat} (h : t ≤ ms.length) : (layer ms t).length ≤ 720 := Nat.le_trans (layer_le hm h) (fact_mono h6)
end BstM
/-! The orders of a tree, numbered. Plain Lean. -/
namespace BstM
theorem sumN_le {l : List Int} {g g' : Int → Nat} (h : ∀ a ∈ l, g a ≤ g' a) : sumN l g ≤ sumN l g' := by
  induction l with
  | nil => exact Nat.le_refl _
  | cons x l ih =>
    rw [sumN_cons, sumN_cons]
    have h1 := h x List.mem_cons_self
    have h2 := ih fun a ha => h a (List.mem_cons_of_mem _ ha)
    omega
theorem sumN_at {g : Int → Nat} {k : Int} : ∀ {l : List Int}, l.Nodup → k ∈ l → sumN l (fun a => if a = k then g a else 0) = g k
  | x :: l, hn, hk => by
    rw [List.nodup_cons] at hn
    rw [sumN_cons]
    by_cases e : x = k
    · subst e
      rw [if_pos rfl]
      have : sumN l (fun a => if a = x then g a else 0) = sumN l fun _ => 0 := sumN_congr fun a ha => if_neg fun (z : a = x) => hn.1 (by rw [← z]; exact ha)
      rw [this, sumN_zero]
      rfl
    · rw [if_neg e, sumN_at hn.2 ((List.mem_cons.mp hk).resolve_left fun z => e z.symm)]
      omega
/-- the sum over the smaller ones -/
def low (l : List Int) (g : Int → Nat) (k : Int) : Nat := sumN (l.filter fun j => decide (j < k)) g
theorem low_perm {l m : List Int} (h : l.Perm m) (g : Int → Nat) (k : Int) : low l g k = low m g k := sumN_perm (h.filter _) g
theorem low_if (l : List Int) (g : Int → Nat) (k : Int) : low l g k = sumN l fun a => if a < k then g a else 0 := by
  unfold low
  rw [sumN_filter]
  refine sumN_congr fun a _ => ?_
  by_cases h : a < k <;> simp [h]
theorem low_next {l : List Int} (hn : l.Nodup) {k k' : Int} (hk : k ∈ l) (h : k < k') (g : Int → Nat) : low l g k + g k ≤ low l g k' := by
  rw [low_if, low_if, ← sumN_at (g := g) hn hk, ← sumN_add]
  refine sumN_le fun a _ => ?_
  by_cases h1 : a < k
  · have : ¬ a = k := by omega
    rw [if_pos h1, if_neg this, if_pos (by omega)]
    omega
  · by_cases h2 : a = k
    · rw [if_neg h1, if_pos h2, if_pos (by omega)]
      omega
    · rw [if_neg h1, if_neg h2]
      omega
theorem low_all {l : List Int} (hn : l.Nodup) {k : Int} (hk : k ∈ l) (g : Int → Nat) : low l g k + g k ≤ sumN l g := by
  rw [low_if, ← sumN_at (g := g) hn hk, ← sumN_add]
  refine sumN_le fun a _ => ?_
  by_cases h1 : a < k
  · have : ¬ a = k := by omega
    rw [if_pos h1, if_neg this]
    omega
  · by_cases h2 : a = k
    · rw [if_neg h1, if_pos h2]
      omega
    · rw [if_neg h1, if_neg h2]
      omega
/-- nothing between two neighbours -/
theorem low_tight {l : List Int} (hn : l.Nodup) {k k' : Int} (hk : k ∈ l) (h : k < k') (hb : ∀ j ∈ l, k < j → k' ≤ j) (g : Int → Nat) : low l g k' = low l g k + g k := by
  rw [low_if, low_if, ← sumN_at (g := g) hn hk, ← sumN_add]
  refine sumN_congr fun a ha => ?_
  have := hb a ha
  by_cases h1 : a < k
  · have h2 : ¬ a = k := by omega
    rw [if_pos h1, if_neg h2, if_pos (by omega)]
    rfl
  · by_cases h2 : a = k
    · rw [if_neg h1, if_pos h2, if_pos (by omega)]
      omega
    · rw [if_neg h1, if_neg h2, if_neg (by omega)]
theorem low_top {l : List Int} (hn : l.Nodup) {k : Int} (hk : k ∈ l) (hb : ∀ j ∈ l, j ≤ k) (g : Int → Nat) : sumN l g = low l g k + g k := by
  rw [low_if, ← sumN_at (g := g) hn hk, ← sumN_add]
  refine sumN_congr fun a ha => ?_
  have := hb a ha
  by_cases h1 : a < k
  · have h2 : ¬ a = k := by omega
    rw [if_pos h1, if_neg h2]
    rfl
  · have h2 : a = k := by omega
    rw [if_neg h1, if_pos h2]
    omega
theorem has_min : ∀ {l : List Int}, l ≠ [] → ∃ m ∈ l, ∀ y ∈ l, m ≤ y
  | [], h => absurd rfl h
  | [x], _ => ⟨x, List.mem_cons_self, fun y hy => by rw [List.mem_singleton.mp hy]; exact Int.le_refl _⟩
  | x :: y :: l, _ => by
    obtain ⟨m, hm, h⟩ := has_min (l := y :: l) (fun z => nomatch z)
    by_cases c : x ≤ m
    · refine ⟨x, List.mem_cons_self, fun z hz => ?_⟩
      rcases List.mem_cons.mp hz with e | hz
      · rw [e]; exact Int.le_refl _
      · exact Int.le_trans c (h z hz)
    · refine ⟨m, List.mem_cons_of_mem _ hm, fun z hz => ?_⟩
      rcases List.mem_cons.mp hz with e | hz
      · rw [e]; omega
      · exact h z hz
/-- the greatest one whose smaller ones do not use the number up: it has the number -/
theorem low_pick {l : List Int} (hn : l.Nodup) {g : Int → Nat} {r : Nat} (hr : r < sumN l g) {k : Int} (hk : k ∈ l) (hl : low l g k ≤ r) (hm : ∀ j ∈ l, low l g j ≤ r → j ≤ k) : r < low l g k + g k := by
  by_cases he : (l.filter fun j => decide (k < j)) = []
  · have hb : ∀ j ∈ l, j ≤ k := fun j hj => by
      have := List.filter_eq_nil_iff.mp he j hj
      simp at this
      omega
    rw [← low_top hn hk hb]
    exact hr
  · obtain ⟨k', hk', hmin⟩ := has_min he
    obtain ⟨h1, h2⟩ := List.mem_filter.mp hk'
    have h3 : k < k' := of_decide_eq_true h2
    have ht := low_tight hn hk h3 (fun j hj hkj => hmin j (List.mem_filter.mpr ⟨hj, decide_eq_true hkj⟩)) g
    have := hm k' h1
    omega
theorem low_first {l : List Int} {m : Int} (h : ∀ y ∈ l, m ≤ y) (g : Int → Nat) : low l g m = 0 := by
  unfold low
  have : (l.filter fun j => decide (j < m)) = [] := List.filter_eq_nil_iff.mpr fun y hy => by
    have := h y hy
    simp
    omega
  rw [this]
  rfl
section
variable (os : List Int)
/-- a way to insert all that is left -/
def Go : List Int → List Int → Prop
  | [], f => rem os f = []
  | k :: s, f => k ∈ free os f ∧ Go s (k :: f)
/-- its number -/
def rank : List Int → List Int → Nat
  | [], _ => 0
  | k :: s, f => low (free os f) (fun j => ext os s.length (j :: f)) k + rank s (k :: f)
end
variable {os : List Int}
theorem go_len (hn : os.Nodup) : ∀ {s f : List Int}, Go os s f → (rem os f).length = s.length
  | [], f, h => by
    have h' : rem os f = [] := h
    rw [h']
  | k :: s, f, h => by
    have ih := go_len hn h.2
    have hp := rem_cons hn (List.mem_filter.mp h.1).1
    rw [hp.length_eq, List.length_cons, ih, List.length_cons]
theorem rank_lt (hn : os.Nodup) : ∀ {s f : List Int}, Go os s f → rank os s f < ext os s.length f
  | [], f, _ => Nat.one_pos
  | k :: s, f, h => by
    have ih := rank_lt hn h.2
    have h1 := low_all (free_nodup (f := f) hn) h.1 (fun j => ext os s.length (j :: f))
    show low _ _ k + rank os s (k :: f) < sumN (free os f) fun j => ext os s.length (j :: f)
    omega
/-- ascending, as lists are -/
def ltI : List Int → List Int → Prop
  | [], [] => False
  | [], _ :: _ => True
  | _ :: _, [] => False
  | a :: l, b :: m => a < b ∨ (a = b ∧ ltI l m)
theorem rank_lex (hn : os.Nodup) : ∀ {s s' f : List Int}, Go os s f → Go os s' f → (ltI s s' ↔ rank os s f < rank os s' f)
  | [], [], f, _, _ => ⟨fun h => h.elim, fun h => absurd h (Nat.lt_irrefl _)⟩
  | [], k :: s', f, h, h' => by
    have := go_len hn h
    rw [go_len hn h'] at this
    exact absurd this (by simp)
  | k :: s, [], f, h, h' => by
    have := go_len hn h
    rw [go_len hn h'] at this
    exact absurd this (by simp)
  | k :: s, k' :: s', f, h, h' => by
    have hl : s.length = s'.length := by
      have := go_len hn h
      rw [go_len hn h'] at this
      simpa using this.symm
    have r1 := rank_lt hn h.2
    have r2 := rank_lt hn h'.2
    have nd := free_nodup (f := f) hn
    show (k < k' ∨ (k = k' ∧ ltI s s')) ↔ low _ _ k + rank os s (k :: f) < low _ _ k' + rank os s' (k' :: f)
    rw [← hl]
    rw [← hl] at r2
    rcases Int.lt_trichotomy k k' with c | c | c
    · have := low_next nd h.1 c (fun j => ext os s.length (j :: f))
      exact ⟨fun _ => by omega, fun _ => .inl c⟩
    · subst c
      have ih := rank_lex hn h.2 h'.2
      constructor
      · rintro (z | ⟨_, z⟩)
        · omega
        · have := ih.mp z
          omega
      · intro z
        exact .inr ⟨rfl, ih.mpr (by omega)⟩
    · have := low_next nd h'.1 c (fun j => ext os s.length (j :: f))
      constructor
      · rintro (z | ⟨z, _⟩) <;> omega
      · intro z
        omega
theorem ltI_total : ∀ {a b : List Int}, ¬ ltI a b → ¬ ltI b a → a = b
  | [], [], _, _ => rfl
  | [], _ :: _, h, _ => absurd trivial h
  | _ :: _, [], _, h => absurd trivial h
  | x :: a, y :: b, h1, h2 => by
    have e : x = y := by
      rcases Int.lt_trichotomy x y with c | c | c
      · exact absurd (.inl c) h1
      · exact c
      · exact absurd (.inl c) h2
    subst e
    rw [ltI_total (fun z => h1 (.inr ⟨rfl, z⟩)) (fun z => h2 (.inr ⟨rfl, z⟩))]
theorem rank_inj (hn : os.Nodup) {s s' f : List Int} (h : Go os s f) (h' : Go os s' f) (e : rank os s f = rank os s' f) : s = s' :=
  ltI_total (fun z => by have := (rank_lex hn h h').mp z; omega) (fun z => by have := (rank_lex hn h' h).mp z; omega)
theorem laterB_suffix : ∀ (q f : List Int), laterB os (q ++ f) = true → laterB os f = true
  | [], f, h => h
  | x :: q, f, h => by
    unfold laterB at h
    rw [List.cons_append] at h
    simp only [Bool.and_eq_true] at h
    exact laterB_suffix q f h.2
theorem go_later (hn : os.Nodup) : ∀ {s f : List Int}, Closed os f → laterB os f = true → Go os s f → (s.reverse ++ f).Perm os ∧ laterB os (s.reverse ++ f) = true
  | [], f, c, hb, h => by
    refine ⟨(List.perm_ext_iff_of_nodup c.nd hn).mpr fun k => ⟨fun hk => c.sub k hk, fun hk => ?_⟩, hb⟩
    refine Classical.byContradiction fun z => ?_
    have h' : rem os f = [] := h
    have := mem_rem.mpr ⟨hk, z⟩
    rw [h'] at this
    cases this
  | k :: s, f, c, hb, h => by
    have hk := mem_free.mp h.1
    have hb' : laterB os (k :: f) = true := by
      unfold laterB
      rw [hk.2.2, hb]
      rfl
    have := go_later hn (c.cons h.1) hb' h.2
    rw [List.reverse_cons, List.append_assoc]
    exact this
theorem later_go (hn : os.Nodup) : ∀ {s f : List Int}, (s.reverse ++ f).Perm os → laterB os (s.reverse ++ f) = true → Go os s f
  | [], f, hp, _ => by
    show rem os f = []
    refine List.filter_eq_nil_iff.mpr fun k hk => ?_
    have := hp.mem_iff.mpr hk
    simpa using this
  | k :: s, f, hp, hb => by
    rw [List.reverse_cons, List.append_assoc] at hp hb
    have h1 := laterB_suffix s.reverse ([k] ++ f) hb
    have hnd : (s.reverse ++ ([k] ++ f)).Nodup := hp.nodup_iff.mpr hn
    have hkf : k ∉ f := fun z => by
      have := (List.nodup_append.mp hnd).2.1
      exact (List.nodup_cons.mp this).1 z
    have hko : k ∈ os := hp.mem_iff.mp (by simp)
    have h2 : okParent f (par os k) = true := by
      have h3 : (okParent f (par os k) && laterB os f) = true := h1
      exact (Bool.and_eq_true_iff.mp h3).1
    exact ⟨mem_free.mpr ⟨hko, hkf, h2⟩, later_go hn hp hb⟩
theorem go_iff (hn : os.Nodup) {s : List Int} : Go os s [] ↔ s.Perm os ∧ ∀ k ∈ s, (placeOf s.reverse k).1 = (placeOf os.reverse k).1 := by
  constructor
  · intro h
    obtain ⟨h1, h2⟩ := go_later hn Closed.nil rfl h
    rw [List.append_nil] at h1 h2
    have hp : s.Perm os := (List.reverse_perm s).symm.trans h1
    exact ⟨hp, (same_iff hn hp).mpr h2⟩
  · rintro ⟨hp, h⟩
    refine later_go hn ?_ ?_
    · rw [List.append_nil]
      exact (List.reverse_perm s).trans hp
    · rw [List.append_nil]
      exact (same_iff hn hp).mp h
/-- the order itself -/
theorem go_self (hn : os.Nodup) : Go os os [] := (go_iff hn).mpr ⟨List.Perm.refl _, fun _ _ => rfl⟩
/-- each number below the count has its order -/
theorem go_some (hn : os.Nodup) : ∀ (m : Nat) (f : List Int), Closed os f → (rem os f).length = m → ∀ r, r < ext os m f → ∃ s, Go os s f ∧ rank os s f = r
  | 0, f, _, hl, r, hr => by
    have e : rem os f = [] := List.length_eq_zero_iff.mp hl
    have hr' : r < 1 := hr
    exact ⟨[], e, by show 0 = r; omega⟩
  | m + 1, f, c, hl, r, hr => by
    have hr' : r < sumN (free os f) fun k => ext os m (k :: f) := hr
    have hne : free os f ≠ [] := fun z => by rw [z] at hr'; exact absurd hr' (Nat.not_lt_zero _)
    obtain ⟨m0, hm0, hmin⟩ := has_min hne
    have hne2 : ((free os f).filter fun j => decide (low (free os f) (fun k => ext os m (k :: f)) j ≤ r)).map (fun x => -x) ≠ [] := fun z => by
      have h1 := List.map_eq_nil_iff.mp z
      have := List.filter_eq_nil_iff.mp h1 m0 hm0
      rw [low_first hmin] at this
      simp at this
    obtain ⟨k0, hk0, hk0m⟩ := has_min hne2
    obtain ⟨k, hk, rfl⟩ := List.mem_map.mp hk0
    obtain ⟨hk1, hk2⟩ := List.mem_filter.mp hk
    have hlow := of_decide_eq_true hk2
    have hmax : ∀ j ∈ free os f, low (free os f) (fun k => ext os m (k :: f)) j ≤ r → j ≤ k := fun j hj hjr => by
      have := hk0m (-j) (List.mem_map.mpr ⟨j, List.mem_filter.mpr ⟨hj, decide_eq_true hjr⟩, rfl⟩)
      omega
    have hp := low_pick (free_nodup (f := f) hn) hr' hk1 hlow hmax
    have hl2 : (rem os (k :: f)).length = m := by
      have := (rem_cons hn (List.mem_filter.mp hk1).1).length_eq
      rw [List.length_cons] at this
      omega
    obtain ⟨s, hs, hr2⟩ := go_some hn m (k :: f) (c.cons hk1) hl2 (r - low (free os f) (fun k => ext os m (k :: f)) k) (by omega)
    refine ⟨k :: s, ⟨hk1, hs⟩, ?_⟩
    have hsl : s.length = m := by rw [← go_len hn hs]; exact hl2
    show low (free os f) (fun j => ext os s.length (j :: f)) k + rank os s (k :: f) = r
    rw [hsl, hr2]
    omega
end BstM
namespace BstM
section
variable {os ot : List Int}
theorem free_cong (h : ot.Perm os) (hp : ∀ k ∈ os, par ot k = par os k) (f : List Int) : (free ot f).Perm (free os f) := by
  unfold free rem
  refine ((h.filter _).filter _).trans (List.Perm.of_eq (List.filter_congr fun k hk => ?_))
  rw [hp k (List.mem_filter.mp hk).1]
theorem ext_cong (h : ot.Perm os) (hp : ∀ k ∈ os, par ot k = par os k) : ∀ (m : Nat) (f : List Int), ext ot m f = ext os m f
  | 0, _ => rfl
  | m + 1, f => by
    show sumN (free ot f) (fun k => ext ot m (k :: f)) = sumN (free os f) fun k => ext os m (k :: f)
    rw [sumN_perm (free_cong h hp f)]
    exact sumN_congr fun k _ => ext_cong h hp m (k :: f)
theorem rank_cong (h : ot.Perm os) (hp : ∀ k ∈ os, par ot k = par os k) : ∀ (s f : List Int), rank ot s f = rank os s f
  | [], _ => rfl
  | k :: s, f => by
    show low (free ot f) (fun j => ext ot s.length (j :: f)) k + rank ot s (k :: f) = low (free os f) (fun j => ext os s.length (j :: f)) k + rank os s (k :: f)
    rw [rank_cong h hp s, low_perm (free_cong h hp f)]
    congr 1
    exact sumN_congr fun j _ => ext_cong h hp _ _
theorem go_cong (h : ot.Perm os) (hp : ∀ k ∈ os, par ot k = par os k) : ∀ (s f : List Int), Go ot s f → Go os s f
  | [], f, g => by
    have g' : rem ot f = [] := g
    show rem os f = []
    have := (h.filter fun k => !decide (k ∈ f)).length_eq
    rw [show ot.filter (fun k => !decide (k ∈ f)) = [] from g'] at this
    exact List.length_eq_zero_iff.mp this.symm
  | k :: s, f, g => ⟨(free_cong h hp f).mem_iff.mp g.1, go_cong h hp s _ g.2⟩
/-- an order of the same tree numbers them alike -/
theorem go_par (hn : os.Nodup) (h : Go os ot []) : ot.Perm os ∧ ∀ k ∈ os, par ot k = par os k := by
  obtain ⟨h1, h2⟩ := (go_iff hn).mp h
  exact ⟨h1, fun k hk => h2 k (h1.mem_iff.mpr hk)⟩
end
theorem ltI_app {a b : List Int} : ∀ s : List Int, ltI a b → ltI (s ++ a) (s ++ b)
  | [], h => h
  | _ :: s, h => Or.inr ⟨rfl, ltI_app s h⟩
theorem ltI_long (a b : List Int) : ∀ s s' : List Int, s.length = s'.length → ltI s s' → ltI (s ++ a) (s' ++ b)
  | [], [], _, h => h.elim
  | [], _ :: _, e, _ => by simp at e
  | _ :: _, [], e, _ => by simp at e
  | x :: s, y :: s', e, h => by
    rcases h with h | ⟨h1, h2⟩
    · exact Or.inl h
    · exact Or.inr ⟨h1, ltI_long a b s s' (by simpa using e) h2⟩
section
variable {ms : List Int}
theorem layer_asc (hm : ms.Pairwise (· < ·)) : ∀ t, (layer ms t).Pairwise ltI
  | 0 => List.pairwise_singleton _ _
  | t + 1 => by
    show ((layer ms t).flatMap _).Pairwise ltI
    rw [List.pairwise_flatMap]
    refine ⟨fun s _ => ?_, (layer_asc hm t).imp_of_mem fun h1 h2 h => ?_⟩
    · rw [List.pairwise_map]
      exact (hm.sublist List.filter_sublist).imp fun {a b} h => ltI_app (a := [a]) (b := [b]) s (Or.inl h)
    · intro x hx y hy
      obtain ⟨k, _, rfl⟩ := List.mem_map.mp hx
      obtain ⟨k', _, rfl⟩ := List.mem_map.mp hy
      exact ltI_long _ _ _ _ ((layer_mem t _ h1).2.1.trans (layer_mem t _ h2).2.1.symm) h
theorem layer_has : ∀ (t : Nat) (s : List Int), s.length = t → s.Nodup → (∀ x ∈ s, x ∈ ms) → s ∈ layer ms t
  | 0, s, e, _, _ => by rw [List.length_eq_zero_iff.mp e]; exact List.mem_singleton.mpr rfl
  | t + 1, s, e, hn, hs => by
    rcases List.eq_nil_or_concat s with z | ⟨l, b, z⟩
    · rw [z] at e
      cases e
    · rw [List.concat_eq_append] at z
      subst z
      rw [List.length_append] at e
      rw [List.nodup_append] at hn
      have hb : b ∉ l := fun z => hn.2.2 b z b (List.mem_singleton.mpr rfl) rfl
      refine List.mem_flatMap.mpr ⟨l, layer_has t l (by simpa using e) hn.1 (fun x hx => hs x (List.mem_append_left _ hx)), List.mem_map.mpr ⟨b, List.mem_filter.mpr ⟨hs b (List.mem_append_right _ (List.mem_singleton.mpr rfl)), ?_⟩, rfl⟩⟩
      simpa using hb
end
/-- the next order among all orders of the keys -/
theorem next_first {os ms : List Int} (hn : os.Nodup) (hp : ms.Perm os) (ha : ms.Pairwise (· < ·)) (g q : List Int → Bool) (hg : ∀ s, g s = true ↔ ltI os s) (hq : ∀ s, s.Perm os → (q s = true ↔ Go os s [])) :
    (((layer ms ms.length).filter g).filter q = [] ∧ ∀ s, Go os s [] → rank os s [] ≤ rank os os []) ∨
    ∃ s0 r, ((layer ms ms.length).filter g).filter q = s0 :: r ∧ Go os s0 [] ∧ rank os s0 [] = rank os os [] + 1 := by
  have hm : ms.Nodup := hp.nodup_iff.mpr hn
  have hin : ∀ s, s ∈ ((layer ms ms.length).filter g).filter q ↔ Go os s [] ∧ rank os os [] < rank os s [] := fun s => by
    rw [List.mem_filter, List.mem_filter]
    constructor
    · rintro ⟨⟨h1, h2⟩, h3⟩
      have g0 := (hq s ((layer_perm hm h1).trans hp)).mp h3
      exact ⟨g0, (rank_lex hn (go_self hn) g0).mp ((hg s).mp h2)⟩
    · rintro ⟨h1, h2⟩
      have h3 := ((go_iff hn).mp h1).1
      exact ⟨⟨layer_has _ s ((h3.trans hp.symm).length_eq) (h3.nodup_iff.mpr hn) (fun x hx => hp.mem_iff.mpr (h3.mem_iff.mp hx)), (hg s).mpr ((rank_lex hn (go_self hn) h1).mpr h2)⟩, (hq s h3).mpr h1⟩
  have hpw : (((layer ms ms.length).filter g).filter q).Pairwise ltI := (layer_asc ha _).sublist (List.filter_sublist.trans List.filter_sublist)
  generalize ((layer ms ms.length).filter g).filter q = L at hin hpw
  cases L with
  | nil =>
    refine .inl ⟨rfl, fun s hs => ?_⟩
    exact Nat.not_lt.mp fun z => List.not_mem_nil ((hin s).mpr ⟨hs, z⟩)
  | cons s0 r =>
    obtain ⟨g0, r0⟩ := (hin s0).mp List.mem_cons_self
    refine .inr ⟨s0, r, rfl, g0, ?_⟩
    have hl := rank_lt hn g0
    have h2 := go_len hn g0
    have e : rem os [] = os := by
      unfold rem
      exact List.filter_eq_self.mpr fun k _ => by simp
    obtain ⟨s1, g1, r1⟩ := go_some hn s0.length [] Closed.nil h2 (rank os os [] + 1) (by omega)
    rcases List.mem_cons.mp ((hin s1).mpr ⟨g1, by omega⟩) with z | z
    · rw [← z]
      exact r1
    · have := (rank_lex hn g0 g1).mp ((List.pairwise_cons.mp hpw).1 s1 z)
      omega
end BstM
namespace BstM
variable {os ot ms : List Int}
/-- the orders of a tree among all orders, in ascending order: their numbers -/
theorem listed (hn : os.Nodup) (hp : ms.Perm os) (ha : ms.Pairwise (· < ·)) (q : List Int → Bool) (hq : ∀ s, s.Perm os → (q s = true ↔ Go os s [])) :
    (∀ s ∈ (layer ms ms.length).filter q, Go os s []) ∧ ((layer ms ms.length).filter q).map (fun s => rank os s []) = List.range (ext os os.length []) := by
  have hm : ms.Nodup := hp.nodup_iff.mpr hn
  have hin : ∀ s, s ∈ (layer ms ms.length).filter q ↔ Go os s [] := fun s => by
    rw [List.mem_filter]
    constructor
    · rintro ⟨h1, h3⟩
      exact (hq s ((layer_perm hm h1).trans hp)).mp h3
    · intro h1
      have h3 := ((go_iff hn).mp h1).1
      exact ⟨layer_has _ s ((h3.trans hp.symm).length_eq) (h3.nodup_iff.mpr hn) (fun x hx => hp.mem_iff.mpr (h3.mem_iff.mp hx)), (hq s h3).mpr h1⟩
  have hpw : ((layer ms ms.length).filter q).Pairwise ltI := (layer_asc ha _).sublist List.filter_sublist
  generalize (layer ms ms.length).filter q = L at hin hpw
  refine ⟨fun s hs => (hin s).mp hs, ?_⟩
  have e : rem os [] = os := by
    unfold rem
    exact List.filter_eq_self.mpr fun k _ => by simp
  have hpr : (L.map fun s => rank os s []).Pairwise (· < ·) := by
    rw [List.pairwise_map]
    refine hpw.imp_of_mem fun {s t} hs ht h => ?_
    exact (rank_lex hn ((hin s).mp hs) ((hin t).mp ht)).mp h
  have hnd : (L.map fun s => rank os s []).Nodup := hpr.imp fun h => Nat.ne_of_lt h
  have hperm : (L.map fun s => rank os s []).Perm (List.range (ext os os.length [])) := by
    refine (List.perm_ext_iff_of_nodup hnd List.nodup_range).mpr fun r => ?_
    rw [List.mem_range, List.mem_map]
    constructor
    · rintro ⟨s, hs, rfl⟩
      have g := (hin s).mp hs
      have h1 := rank_lt hn g
      have h2 := go_len hn g
      rw [e] at h2
      rw [h2]
      exact h1
    · intro hr
      obtain ⟨s, g, hs⟩ := go_some hn os.length [] Closed.nil (by rw [e]) r hr
      exact ⟨s, (hin s).mpr g, hs⟩
  exact List.Perm.eq_of_pairwise (le := (· < ·)) (fun a b _ _ h h' => absurd h (Nat.lt_asymm h')) hpr List.pairwise_lt_range hperm
end BstM
namespace DN
open PySem PySem.Spec PyProof.Rows L2 T1 TK BstM
theorem pe_skip {X : Cx} {e st : Expr} {te tn : TE} {p3 pos : Pos} (he : PE X e te) (hn : PE X st tn) : PE X (.Subscript e (.Slice none none (some st) p3) pos) (tSkip X.K te tn) := by
  refine ⟨fun pins s σ H Q I h => ?_⟩
  refine Subscript_ (thn (he.run pins s σ H _ I h) fun v s1 ⟨x, H1, I1, r1, q1⟩ => ?_)
  have ho : PO X (some st) (tPart tn) := po_some hn
  refine wpAny_Slice (thn (po_none.run pins s1 σ H1 (fun o H2 => o = none ∧ H2 = H1) I1 ⟨rfl, rfl⟩) fun vl s2 ⟨l, H2, I2, pl, el, e2⟩ => ?_)
  obtain rfl := e2
  obtain rfl := el
  refine thn (po_none.run pins s2 σ H2 (fun o H3 => o = none ∧ H3 = H2) I2 ⟨rfl, rfl⟩) fun vu s3 ⟨u, H3, I3, pu, eu, e3⟩ => ?_
  obtain rfl := e3
  obtain rfl := eu
  refine thn (ho.run pins s3 σ H3 (fun o H4 => ∃ n, o = some n ∧ ∃ a xs, x = .ref a ∧ 0 < n ∧ SqL X.K H4 a xs ∧ ∀ p ys, H4 p = none → (∀ y ∈ ys, y ∈ xs) → Q (.ref p) (upd H4 p (.lst ys))) I3 ?_) fun vs s4 ⟨o, H4, I4, ps, n, eo, a, xs, ea, h0, hx, q⟩ => ?_
  · show tn σ H3 fun y H4 => ∃ i, y = .int i ∧ ∃ n, some i = some n ∧ _
    have e : (fun (y : V) (H4 : Hp) => ∃ i, y = .int i ∧ ∃ a xs, x = .ref a ∧ 0 < i ∧ SqL X.K H4 a xs ∧ ∀ p ys, H4 p = none → (∀ y ∈ ys, y ∈ xs) → Q (.ref p) (upd H4 p (.lst ys))) =
        fun y H4 => ∃ i, y = .int i ∧ ∃ n, some i = some n ∧ ∃ a xs, x = .ref a ∧ 0 < n ∧ SqL X.K H4 a xs ∧ ∀ p ys, H4 p = none → (∀ y ∈ ys, y ∈ xs) → Q (.ref p) (upd H4 p (.lst ys)) := by
      funext y H4
      refine propext ⟨?_, ?_⟩
      · rintro ⟨i, e, h⟩
        exact ⟨i, e, i, rfl, h⟩
      · rintro ⟨i, e, n, e2, h⟩
        cases e2
        exact ⟨i, e, h⟩
    rw [← e]
    exact q1
  subst eo
  subst ea
  cases r1
  have I5 : Inv X pins σ H4 { s4 with heap := s4.heap.push { cls := .type "slice", data := .fields #[vl, vu, vs] } } := I4.kept (t' := s4.toks) fun b ob q => Heap.get?_push_of_some _ q
  obtain ⟨its, r, ht, hz⟩ := I5.list hx
  have hlen := r.length
  show wpAny (model X.prog X.w) X.A (subscriptTail e (.Slice none none (some st) p3) (.ref a) (.ref s4.heap.objs.size)) _ X.xe _
  refine tail_any (ops := [.ref a, .ref s4.heap.objs.size]) ht.isList.typeIs (PySem.slot_list_getitem.lookup) ?_ (by with_unfolding_all rfl)
  refine wpAny_getItem_list_slice ht.isList (Heap.IsSliceOf.new _ vl vu vs) pl pu ps (fun z => ?_) ?_ (by rw [List.size_toArray]; omega)
  · have := Option.some.inj z
    omega
  unfold slicePick
  obtain ⟨ys, hy, hsub⟩ := vals_pick r (sliceRange (sliceBounds none none (some n) its.toArray.size).1 (sliceBounds none none (some n) its.toArray.size).2.1 (sliceBounds none none (some n) its.toArray.size).2.2)
  have hle := slicePick_size_le its.toArray none none (some n)
  unfold slicePick at hle
  refine ⟨.ref _, _, I5.laid (t' := s4.toks) (o := .lst ys) (fun b ob q => Heap.get?_push_of_some _ q) (Nat.le_refl _) ?_, rfl, q _ _ (I5.hok.fresh (Nat.le_refl _)) hsub⟩
  refine ⟨?_, _, 0, hy, ?_⟩
  · have h1 := hy.length
    simp only [List.size_toArray, List.getElem?_toArray] at hle h1 ⊢
    omega
  · rw [show (fun i => its[i]?) = (its.toArray[·]?) from by funext i; simp]
    exact Heap.get?_push_size _ rfl
theorem pe_ngetP {X : Cx} {P : Program} {w : World} {o i : Expr} {pos : Pos} {td ty : TE} (hP : X.prog = P) (hw : X.w = w) (hu : X.A.units + 9 < cLine) (ho : PE X o td) (hi : PE X i ty) (hs : NoSl i) : PE X (.Subscript o i pos) (tNGet P w td ty) := by
  subst hP
  subst hw
  exact pe_nget hu ho hi hs
section
variable {X : Cx} {P : Program} {w : World} {o i e value tg : Expr} {pos pos' : Pos} {td ty tv : TE}
theorem ps_nputP (hP : X.prog = P) (hw : X.w = w) (hu : X.A.units + 9 < cLine) (ho : PE X o td) (hi : PE X i ty) (hv : PE X value tv) (hs : swapsWith value (some (.Subscript o i pos')) pos.line X.env = pure false) :
    PS X (.Assign [.Subscript o i pos'] value pos) (sNPut P w td ty tv) := by
  subst hP
  subst hw
  exact ps_nput hu ho hi hv hs
theorem pe_nnewP (hP : X.prog = P) (hw : X.w = w) : PE X (.Dict [] [] pos) (tNNew P w) := by
  subst hP
  subst hw
  exact pe_nnew
theorem cr_lenNP (hP : X.prog = P) (hw : X.w = w) : CallR X (.builtin "len") (rLenN P w) := by
  subst hP
  subst hw
  exact cr_lenN
theorem cr_listNP (hP : X.prog = P) (hw : X.w = w) (hc : X.calm = true) : CallR X (.type "list") (rListN P w) := by
  subst hP
  subst hw
  exact cr_listN hc
theorem pi_keysNP (hP : X.prog = P) (hw : X.w = w) (he : PE X e td) : PI X tg e (iKeysN P w td) := by
  subst hP
  subst hw
  exact pi_keysN he
end
end DN
namespace T1
open PySem PySem.Spec PyProof.Rows L2 TK BstM DatI
section
variable {P : Program} {w : World} {K : PySem.W.Frag} {mg : Str → Option Value} {base : Heap}
def spKnownL (K : PySem.W.Frag) : Sp := fun vs H Q _ => ∃ (a : Addr) (ns : List Int) (k : Int), vs = [.ref a, .int k] ∧ SqL K H a (ns.map V.int) ∧ k ∈ ns ∧ InR k ∧ Q .non H
def spMeetIn (K : PySem.W.Frag) : Sp := fun vs H Q _ => ∃ (a : Addr) (ns : List Int) (x y : Int), vs = [.ref a, .int x, .int y] ∧ SqL K H a (ns.map V.int) ∧ Q (oV (firstB ns x y)) H
def spMeet : Sp := fun vs H Q _ => ∃ (a : Addr) (ns : List Int) (x y : Int), vs = [.ref a, .int x, .int y] ∧ H a = some (.lst (ns.map V.int)) ∧ Order ns ∧ x ∈ ns ∧ y ∈ ns ∧ ∀ H', Same H H' → Q (oV (firstB ns x y)) H'
def spAbove : Sp := fun vs H Q _ => ∃ (a : Addr) (ns : List Int) (x y : Int), vs = [.ref a, .int x, .int y] ∧ H a = some (.lst (ns.map V.int)) ∧ Order ns ∧ x ∈ ns ∧ y ∈ ns ∧ ∀ H', Same H H' → Q (.bl (decide (x ≠ y ∧ firstB ns x y = some x))) H'
def spKAbove (K : PySem.W.Frag) : Sp := fun vs H Q _ => ∃ (a : Addr) (ns : List Int) (k : Int), vs = [.ref a, .int k] ∧ SqL K H a (ns.map V.int) ∧ Order ns ∧ k ∈ ns ∧ ∀ H' b, Same H H' → H b = none → H' b = some (.lst ((aboveOf ns k).map V.int)) → Q (.ref b) H'
def spAnc : Sp := fun vs H Q _ => ∃ (a : Addr) (ns : List Int) (k : Int), vs = [.ref a, .int k] ∧ H a = some (.lst (ns.map V.int)) ∧ Order ns ∧ k ∈ ns ∧ ∀ H' b, Same H H' → H b = none → H' b = some (.lst ((aboveOf ns k).map V.int)) → Q (.ref b) H'
/-- the depths of the keys in the order -/
def depthsOf (ns ms : List Int) : List Int := ms.map fun k => ((aboveOf ns k).length : Int)
def spDepths : Sp := fun vs H Q _ => ∃ (a : Addr) (ns : List Int), vs = [.ref a] ∧ H a = some (.lst (ns.map V.int)) ∧ Order ns ∧ ∀ H' b, Same H H' → H b = none → H' b = some (.lst ((depthsOf ns ns).map V.int)) → Q (.ref b) H'
def spTotal : Sp := fun vs H Q _ => ∃ (a : Addr) (ns : List Int), vs = [.ref a] ∧ H a = some (.lst (ns.map V.int)) ∧ Order ns ∧ ∀ H', Same H H' → Q (.int (depthsOf ns ns).sum) H'
theorem inV_int (k : Int) (l : List Int) : inV (.int k) (l.map V.int) = decide (k ∈ l) := by
  have := inV_rev k l.reverse
  rw [List.reverse_reverse] at this
  rw [this]
  simp
theorem min_if (x y : Int) : (if y < x then y else x) = min x y := by split <;> omega
theorem max_if (x y : Int) : (if y > x then y else x) = max x y := by split <;> omega
theorem scal_o (o o' : Option Int) : scal (oV o) (oV o') = true := by cases o <;> cases o' <;> rfl
theorem oV_inj (o o' : Option Int) : (oV o = oV o') ↔ o = o' := by
  cases o <;> cases o' <;> simp [oV]
/-- the place of a key -/
theorem ix_of {ns : List Int} (hn : ns.Nodup) {k : Int} (hk : k ∈ ns) : ∃ (j : Nat) (hj : j < ns.length), ns[j] = k ∧ (ns.map V.int)[j]? = some (.int k) ∧ ∀ (m : Nat) (z' : V), m < j → (ns.map V.int)[m]? = some z' → eqV z' (.int k) = false := by
  obtain ⟨j, hj, e⟩ := List.getElem_of_mem hk
  refine ⟨j, hj, e, by rw [List.getElem?_map, List.getElem?_eq_getElem hj, e]; rfl, fun m z' hm hz => ?_⟩
  obtain ⟨hm', rfl⟩ := get_int hz
  show (ns[m] == k) = false
  rw [beq_eq_false_iff_ne]
  intro e2
  rw [← e] at e2
  have := (List.getElem_inj hn).mp e2
  omega
theorem cut_last (l : List V) (x : V) : cutV (l ++ [x]) none (some (-1)) = l := by
  unfold cutV
  rw [HT.sIx_none, List.drop_zero, Nat.sub_zero]
  have : HT.sIx (l ++ [x]).length (l ++ [x]).length (some (-1)) = l.length := by
    unfold HT.sIx
    simp only [List.length_append, List.length_cons, List.length_nil]
    rw [if_pos (by decide)]
    omega
  rw [this, List.take_left]
/-- a path without its last key -/
theorem cut_path {ns : List Int} (h : ns.Nodup) {k : Int} (hk : k ∈ ns) : cutV ((pathUp ns.reverse k).reverse.map V.int) none (some (-1)) = (aboveOf ns k).map V.int := by
  rw [path_above h hk, List.map_append]
  exact cut_last _ _
theorem above_mem {ns : List Int} (h : ns.Nodup) {a b : Int} (ha : a ∈ ns) (hb : b ∈ ns) : a ∈ aboveOf ns b ↔ a ≠ b ∧ firstB ns a b = some a := by
  have hr := rev_nodup h
  have h1 := on_path_iff hr (List.mem_reverse.mpr ha) (List.mem_reverse.mpr hb)
  rw [List.reverse_reverse] at h1
  rw [← h1, ← List.mem_reverse (as := pathUp ns.reverse b), path_above h hb, List.mem_append, List.mem_singleton]
  have h2 : b ∉ aboveOf ns b := fun z => by
    have hn : (pathUp ns.reverse b).reverse.Nodup := rev_nodup (List.Nodup.sublist (pathUp_sub ns.reverse hr b) hr)
    rw [path_above h hb, List.nodup_append] at hn
    exact hn.2.2 b z b (by simp) rfl
  constructor
  · intro z
    exact ⟨fun e => h2 (e ▸ z), .inl z⟩
  · rintro ⟨e, z | z⟩
    · exact z
    · exact absurd z e
theorem bl_ne {x y : V} (h : x = y) : V.bl (!decide (x = y)) = V.bl false := by rw [decide_eq_true h]; rfl
theorem bl_eq {x y : V} (h : x = y) : V.bl (decide (x = y)) = V.bl true := by rw [decide_eq_true h]
theorem call_lenK {X : Cx} {K : PySem.W.Frag} (h : X.K = K) : CallR X (.builtin "len") (fun xs H Q => ∃ p ys, xs = [V.ref p] ∧ (SqL K H p ys ∨ SqT K H p ys) ∧ Q (.int (ys.length : Nat)) H) := by
  subst h
  exact call_len_seq
theorem sl_listK {X : Cx} {K : PySem.W.Frag} (h : X.K = K) : SlR X (rSlL K) := by
  subst h
  exact sl_list
theorem ix_listK {X : Cx} {K : PySem.W.Frag} (h : X.K = K) : IxR X (rIxL K) := by
  subst h
  exact ix_list
theorem ix_tupK {X : Cx} {K : PySem.W.Frag} (h : X.K = K) : IxR X (rIxT K) := by
  subst h
  exact ix_tup
theorem op_in_seqK {X : Cx} {K : PySem.W.Frag} (h : X.K = K) : OpR X (compareOp .In) (rIn K false) := by
  subst h
  exact op_in_seq
theorem op_notIn_seqK {X : Cx} {K : PySem.W.Frag} (h : X.K = K) : OpR X (compareOp .NotIn) (rIn K true) := by
  subst h
  exact op_notIn_seq
theorem mt_indexK {X : Cx} {K : PySem.W.Frag} (h : X.K = K) : MtR X "list.index" (rIndex K) := by
  subst h
  exact mt_index
theorem call_isiK {X : Cx} {K : PySem.W.Frag} (h : X.K = K) : CallR X (.builtin "isinstance") (rIsi K) := by
  subst h
  exact call_isi
theorem cr_sortedIK {X : Cx} {K : PySem.W.Frag} (h : X.K = K) : CallR X (.builtin "sorted") (rSortedI K) := by
  subst h
  exact cr_sortedI
theorem op_eqDK {X : Cx} {K : PySem.W.Frag} (h : X.K = K) (hu : X.A.units + 64 < cLine) : OpR X (compareOp .Eq) (rEqD K) := by
  subst h
  exact op_eqD hu
theorem op_neDK {X : Cx} {K : PySem.W.Frag} (h : X.K = K) (hu : X.A.units + 64 < cLine) : OpR X (compareOp .NotEq) (rNeD K) := by
  subst h
  exact op_neD hu
theorem cr_sumK {X : Cx} {K : PySem.W.Frag} (h : X.K = K) (hu : X.calm = true) : CallR X (.builtin "sum") (rSum K) := by
  subst h
  exact cr_sum hu
theorem cr_maxK {X : Cx} {K : PySem.W.Frag} (h : X.K = K) (hu : X.calm = true) : CallR X (.builtin "max") (rMax K) := by
  subst h
  exact cr_max hu
theorem cr_minK {X : Cx} {K : PySem.W.Frag} (h : X.K = K) (hu : X.calm = true) : CallR X (.builtin "min") (rMin K) := by
  subst h
  exact cr_min hu
theorem pi_listK {X : Cx} {K : PySem.W.Frag} {tg l : Expr} {tl : TE} (h : X.K = K) (hl : PE X l tl) : PI X tg l (iList K tl) := by
  subst h
  exact pi_list hl
theorem log2_small {i : Int} (h0 : 0 ≤ i) (h : i ≤ 2 ^ 64) : i.natAbs.log2 < 1920 := by
  by_cases e : i.natAbs = 0
  · rw [e]
    decide
  · rw [Nat.log2_lt e]
    have h1 : i.natAbs ≤ 2 ^ 64 := by omega
    exact Nat.lt_of_le_of_lt h1 (by decide +kernel)
theorem depths_sum {ns : List Int} (ho : Order ns) : ∀ ms : List Int, (∀ k ∈ ms, k ∈ ns) → 0 ≤ (depthsOf ns ms).sum ∧ (depthsOf ns ms).sum ≤ 40 * (ms.length : Int)
  | [], _ => ⟨Int.le_refl _, by simp [depthsOf]⟩
  | k :: ms, h => by
    have ih := depths_sum ho ms fun x hx => h x (List.mem_cons_of_mem _ hx)
    have h1 := aboveOf_len ho.nd (h k List.mem_cons_self)
    have h2 := ho.len
    have e : depthsOf ns (k :: ms) = ((aboveOf ns k).length : Int) :: depthsOf ns ms := rfl
    rw [e, List.sum_cons, List.length_cons]
    constructor
    · omega
    · have : ((ms.length + 1 : Nat) : Int) = (ms.length : Int) + 1 := by omega
      rw [this]
      omega
theorem depths_log {ns : List Int} (ho : Order ns) : (depthsOf ns ns).sum.natAbs.log2 < 1920 := by
  have h := depths_sum ho ns fun _ h => h
  have := ho.len
  exact log2_small h.1 (by omega)
end
end T1
/-! the tuples of a tree as data -/
namespace TreeD
open PySem PySem.Spec PyProof.Rows L2
def oD : Option Int → PyData
  | none => .none
  | some i => .int i
def pairD (x : Int × Option Int) : PyData := .tuple [.int x.1, oD x.2]
def treeD (l : List (Int × Option Int)) : PyData := .tuple (l.map pairD)
def Sm (i : Int) : Prop := i.natAbs < 2 ^ 64
def SmP (x : Int × Option Int) : Prop := Sm x.1 ∧ ∀ m, x.2 = some m → Sm m
theorem log_sm {i : Int} (h : Sm i) : i.natAbs.log2 < 64 := PySem.Flt.log2_lt_of (by decide) h
theorem canLay_oD (o : Option Int) : (oD o).canLay0 = true := by cases o <;> simp [oD, PyData.canLay0]
theorem canLay_pairs : ∀ l : List (Int × Option Int), PyData.canLayAll0 (l.map pairD) = true
  | [] => by simp [PyData.canLayAll0]
  | x :: l => by
    rw [List.map_cons, PyData.canLayAll0, canLay_pairs l]
    simp [pairD, PyData.canLay0, PyData.canLayAll0, canLay_oD]
theorem depth_oD (o : Option Int) : (oD o).depth = 0 := by cases o <;> simp [oD, PyData.depth]
theorem depth_pairs : ∀ l : List (Int × Option Int), PyData.depthAll (l.map pairD) ≤ 1
  | [] => by simp [PyData.depthAll]
  | x :: l => by
    rw [List.map_cons, PyData.depthAll]
    have h1 := depth_pairs l
    have h2 : (pairD x).depth = 1 := by simp [pairD, PyData.depth, PyData.depthAll, depth_oD]
    omega
theorem depth_tree (l : List (Int × Option Int)) : (treeD l).depth ≤ 2 := by
  unfold treeD
  rw [PyData.depth]
  have := depth_pairs l
  omega
theorem shaped_tree (l : List (Int × Option Int)) : SeqAt.shaped (treeD l) = true := by
  unfold SeqAt.shaped
  rw [Bool.and_eq_true]
  refine ⟨?_, decide_eq_true ?_⟩
  · unfold treeD
    rw [PyData.canLay0]
    exact canLay_pairs l
  · have := depth_tree l
    omega
theorem noDict_tree (l : List (Int × Option Int)) : (treeD l).hasDict = false := PyData.hasDict_of_canLay _ (by unfold treeD; rw [PyData.canLay0]; exact canLay_pairs l)
theorem show_int {i : Int} (h : Sm i) : PyData.showable (.int i) = true := by
  have := log_sm h
  simp only [PyData.showable, decide_eq_true_eq]
  omega
theorem show_oD {x : Int × Option Int} (h : SmP x) : (oD x.2).showable = true := by
  obtain ⟨k, o⟩ := x
  cases o with
  | none => simp [oD, PyData.showable]
  | some m => exact show_int (h.2 m rfl)
theorem show_pairs : ∀ l : List (Int × Option Int), (∀ x ∈ l, SmP x) → PyData.showableAll (l.map pairD) = true
  | [], _ => by simp [PyData.showableAll]
  | x :: l, h => by
    rw [List.map_cons, PyData.showableAll, show_pairs l fun y hy => h y (List.mem_cons_of_mem _ hy)]
    have hx := h x List.mem_cons_self
    simp only [pairD, PyData.showable, PyData.showableAll, show_int hx.1, show_oD hx, Bool.and_true, Bool.and_self]
    have := show_int hx.1
    simp only [PyData.showable] at this
    simp only [this]
theorem show_tree {l : List (Int × Option Int)} (h : ∀ x ∈ l, SmP x) : (treeD l).showable = true := by
  unfold treeD
  rw [PyData.showable]
  exact show_pairs l h
theorem short_int {i : Int} (h : Sm i) : PyData.leavesShort 1921 (.int i) = true := by
  have := log_sm h
  simp only [PyData.leavesShort, decide_eq_true_eq]
  exact int_text_len_1921 (by omega)
theorem short_oD {x : Int × Option Int} (h : SmP x) : PyData.leavesShort 1921 (oD x.2) = true := by
  obtain ⟨k, o⟩ := x
  cases o with
  | none => simp [oD, PyData.leavesShort]
  | some m => exact short_int (h.2 m rfl)
theorem weight_int {i : Int} (h : Sm i) : PyData.weight (.int i) ≤ 64 := by
  have := log_sm h
  simp only [PyData.weight]
  split <;> omega
theorem weight_oD {x : Int × Option Int} (h : SmP x) : (oD x.2).weight ≤ 64 := by
  obtain ⟨k, o⟩ := x
  cases o with
  | none => simp [oD, PyData.weight]
  | some m => exact weight_int (h.2 m rfl)
theorem short_pairs : ∀ l : List (Int × Option Int), (∀ x ∈ l, SmP x) → PyData.leavesShortAll 1921 (l.map pairD) = true ∧ PyData.weightAll (l.map pairD) ≤ 131 * l.length
  | [], _ => by simp [PyData.leavesShortAll, PyData.weightAll]
  | x :: l, h => by
    obtain ⟨h1, h2⟩ := short_pairs l fun y hy => h y (List.mem_cons_of_mem _ hy)
    have hx := h x List.mem_cons_self
    refine ⟨?_, ?_⟩
    · rw [List.map_cons, PyData.leavesShortAll, h1, Bool.and_true]
      unfold pairD
      rw [PyData.leavesShort, PyData.leavesShortAll, short_int hx.1, PyData.leavesShortAll, short_oD hx, PyData.leavesShortAll]
      rfl
    · rw [List.map_cons, PyData.weightAll, List.length_cons]
      have e : (pairD x).weight ≤ 130 := by
        unfold pairD
        rw [PyData.weight, PyData.weightAll, PyData.weightAll, PyData.weightAll]
        have := weight_int hx.1
        have := weight_oD hx
        omega
      omega
theorem len_tree {l : List (Int × Option Int)} (h : ∀ x ∈ l, SmP x) (hl : l.length ≤ 41) : (treeD l).shown.length ≤ sizeLine := by
  obtain ⟨h1, h2⟩ := short_pairs l h
  have hs : PyData.leavesShort 1921 (treeD l) = true := by
    unfold treeD
    rw [PyData.leavesShort]
    exact h1
  have := PyData.shown_le 1921 (by decide) (treeD l) hs
  have hw : (treeD l).weight ≤ 131 * l.length := by
    unfold treeD
    rw [PyData.weight]
    exact h2
  rw [sizeLine_eq]
  have h3 : (1921 + 2) * (treeD l).weight ≤ (1921 + 2) * (131 * 41) := Nat.mul_le_mul_left _ (by omega)
  omega
end TreeD
namespace T1
open PySem PySem.Spec PyProof.Rows L2 TK BstM DatI
section
variable {P : Program} {w : World} {K : PySem.W.Frag} {mg : Str → Option Value} {base : Heap}
/-- an order, cut at two neighbours -/
structure CutAt (ns pre post : List Int) (x y : Int) : Prop where
  eq : ns = pre ++ x :: y :: post
def spCheckEx : Sp := fun vs H Q _ => ∃ (a : Addr) (ns : List Int) (i : Nat), vs = [.ref a, .int i] ∧ H a = some (.lst (ns.map V.int)) ∧ Order ns ∧ i + 2 ≤ ns.length ∧ ∀ H', Same H H' → Q .non H'
def spExch : Sp := fun vs H Q _ => ∃ (a : Addr) (pre post : List Int) (x y : Int), vs = [.ref a, .int (pre.length : Nat)] ∧ H a = some (.lst ((pre ++ x :: y :: post).map V.int)) ∧ Order (pre ++ x :: y :: post) ∧ ∀ H' b, Same H H' → H b = none → H' b = some (.lst ((swapAt pre post x y).map V.int)) → Q (.ref b) H'
def spEffect : Sp := fun vs H Q _ => ∃ (a : Addr) (pre post : List Int) (x y : Int), vs = [.ref a, .int (pre.length : Nat)] ∧ H a = some (.lst ((pre ++ x :: y :: post).map V.int)) ∧ Order (pre ++ x :: y :: post) ∧ ∀ H', Same H H' → Q (oV (if firstB (pre ++ x :: y :: post) x y = some x then some y else none)) H'
theorem cut_from (xs : List V) (n : Nat) : cutV xs (some (n : Int)) none = xs.drop n := by
  unfold cutV
  rw [HT.sIx_none, HT.sIx_nat]
  by_cases h : n ≤ xs.length
  · rw [Nat.min_eq_left h, List.take_of_length_le (by rw [List.length_drop]; omega)]
  · rw [Nat.min_eq_right (by omega), List.drop_of_length_le (Nat.le_refl _), List.drop_of_length_le (by omega), List.take_nil]
theorem at_first {pre post : List Int} {x y : Int} : atI ((pre ++ x :: y :: post).map V.int) (pre.length : Nat) = some (.int x) := atI_nat (j := pre.length) (by rw [List.getElem?_map, List.getElem?_append_right (Nat.le_refl _), Nat.sub_self]; rfl)
theorem at_second {pre post : List Int} {x y : Int} : atI ((pre ++ x :: y :: post).map V.int) ((pre.length : Nat) + 1) = some (.int y) := by
  have := atI_nat (xs := (pre ++ x :: y :: post).map V.int) (j := pre.length + 1) (v := .int y) (by rw [List.getElem?_map, List.getElem?_append_right (by omega), Nat.add_sub_cancel_left]; rfl)
  exact this
theorem cut_pre {pre post : List Int} {x y : Int} : cutV ((pre ++ x :: y :: post).map V.int) none (some (pre.length : Nat)) = pre.map V.int := by
  rw [cut_map, List.take_left]
theorem cut_post {pre post : List Int} {x y : Int} : cutV ((pre ++ x :: y :: post).map V.int) (some ((pre.length : Nat) + 2)) none = post.map V.int := by
  have e : ((pre.length : Nat) : Int) + 2 = ((pre.length + 2 : Nat) : Int) := by omega
  rw [e, cut_from, ← List.map_drop]
  congr 1
  rw [List.drop_append, List.drop_of_length_le (by omega), Nat.add_sub_cancel_left]
  rfl
/-- every place but the last cuts the order -/
theorem cut_at {ns : List Int} {i : Nat} (h : i + 2 ≤ ns.length) : ∃ pre post x y, ns = pre ++ x :: y :: post ∧ pre.length = i := by
  have h1 : i < ns.length := by omega
  have h2 : i + 1 < ns.length := by omega
  refine ⟨ns.take i, ns.drop (i + 2), ns[i], ns[i + 1], ?_, by rw [List.length_take]; omega⟩
  rw [List.getElem_cons_drop, List.getElem_cons_drop, List.take_append_drop]
theorem eqv_oD (o o' : Option Int) : PyData.eqv (TreeD.oD o) (TreeD.oD o') = decide (o = o') := by
  cases o with
  | none =>
    cases o' with
    | none => simp [TreeD.oD, PyData.eqv]
    | some j => simp [TreeD.oD, PyData.eqv]
  | some i =>
    cases o' with
    | none => simp [TreeD.oD, PyData.eqv]
    | some j =>
      rw [Bool.eq_iff_iff]
      simp [TreeD.oD, PyData.eqv]
theorem eqv_pair (x x' : Int × Option Int) : PyData.eqv (TreeD.pairD x) (TreeD.pairD x') = decide (x = x') := by
  unfold TreeD.pairD
  rw [PyData.eqv, PyData.eqvAll, PyData.eqvAll, PyData.eqvAll, eqv_oD, PyData.eqv, Bool.eq_iff_iff]
  obtain ⟨a, o⟩ := x
  obtain ⟨b, o'⟩ := x'
  simp
theorem eqvAll_pairs : ∀ l l' : List (Int × Option Int), PyData.eqvAll (l.map TreeD.pairD) (l'.map TreeD.pairD) = decide (l = l')
  | [], [] => by simp [PyData.eqvAll]
  | [], m :: ms => by simp [PyData.eqvAll]
  | n :: ns, [] => by simp [PyData.eqvAll]
  | n :: ns, m :: ms => by
    rw [List.map_cons, List.map_cons, PyData.eqvAll, eqvAll_pairs ns ms, eqv_pair]
    by_cases h : n = m
    · by_cases h2 : ns = ms <;> simp [h, h2]
    · simp [h]
theorem eqv_trees (l l' : List (Int × Option Int)) : PyData.eqv (TreeD.treeD l) (TreeD.treeD l') = decide (l = l') := by
  unfold TreeD.treeD
  rw [PyData.eqv, eqvAll_pairs]
theorem dp_o {K : PySem.W.Frag} {H : Hp} (o : Option Int) : Dp K H (oV o) (TreeD.oD o) := by
  cases o with
  | none => exact .non
  | some i => exact .int i
theorem dp_pairs {K : PySem.W.Frag} {H : Hp} : ∀ {as : List Addr} {l : List (Int × Option Int)}, PairsAt H as l → DpAll K H (as.map V.ref) (l.map TreeD.pairD)
  | _, _, .nil => .nil
  | _, _, .cons h t => .cons (.tup (SqT.of h) (.cons (.int _) (.cons (dp_o _) .nil))) (dp_pairs t)
theorem dp_tree {K : PySem.W.Frag} {H : Hp} {p : Addr} {l : List (Int × Option Int)} (h : TreeAt H p l) : Dp K H (.ref p) (TreeD.treeD l) := by
  obtain ⟨as, h1, h2⟩ := h
  exact .tup (SqT.of h1) (dp_pairs h2)
/-- ascending lists of the same keys are equal -/
theorem asc_uniq {ms ms' ns : List Int} (h : Asc ms ns) (h' : Asc ms' ns) : ms = ms' := List.Perm.eq_of_pairwise (le := (· ≤ ·)) (fun _ _ _ _ => Int.le_antisymm) h.2 h'.2 (h.1.trans h'.1.symm)
theorem pairs_congr {ns ns' ms : List Int} (h : ∀ k ∈ ms, (BstM.placeOf ns.reverse k).1 = (BstM.placeOf ns'.reverse k).1) : pairsOf ns ms = pairsOf ns' ms := List.map_congr_left fun k hk => by rw [parentIn_eq, parentIn_eq, h k hk]
theorem pairs_inj {ns ns' ms : List Int} (h : pairsOf ns ms = pairsOf ns' ms) {k : Int} (hk : k ∈ ms) : parentIn ns.reverse k = parentIn ns'.reverse k := by
  unfold pairsOf at h
  rw [List.map_inj_left] at h
  exact (Prod.mk.inj (h k hk)).2
theorem order_perm {ns ms : List Int} (h : Order ns) (p : ms.Perm ns) : Order ms := ⟨p.nodup_iff.mpr h.nd, fun k hk => h.rng k (p.mem_iff.mp hk), by rw [p.length_eq]; exact h.len⟩
/-- an exchange leaves the tree exactly if the two are unrelated -/
theorem swap_tree {pre post : List Int} {x y : Int} (hn : (pre ++ x :: y :: post).Nodup) {ms : List Int} (ha : Asc ms (pre ++ x :: y :: post)) :
    pairsOf (pre ++ x :: y :: post) ms = pairsOf (swapAt pre post x y) ms ↔ firstB (pre ++ x :: y :: post) x y ≠ some x := by
  have hs : SwapOk pre post x y := ⟨hn⟩
  constructor
  · intro h e
    have h1 := pairs_inj h ((asc_mem ha y).mpr (by simp))
    have h2 := swap_parent hs e
    rw [parentIn_eq, parentIn_eq] at h1
    rw [← h1] at h2
    exact h2.2 h2.1
  · intro h
    exact pairs_congr fun k _ => by rw [swap_same hs h k]
end
end T1
namespace T1
open PySem PySem.Spec PyProof.Rows L2 TK BstM DatI
section
variable {P : Program} {w : World} {K : PySem.W.Frag} {mg : Str → Option Value} {base : Heap}
theorem merge_old : ∀ (more kvs : List (Key × V)) (j : Key), j ∉ more.map (·.1) → valV (mergeK kvs more) j = valV kvs j
  | [], _, _, _ => rfl
  | (k, v) :: more, kvs, j, h => by
    show valV (mergeK (putK kvs k v) more) j = _
    rw [merge_old more _ j fun z => h (List.mem_cons_of_mem _ z), valV_put, if_neg]
    exact fun e => h (by rw [e]; exact List.mem_cons_self)
theorem merge_new : ∀ (more kvs : List (Key × V)) (j : Key) (v : V), (more.map (·.1)).Nodup → (j, v) ∈ more → valV (mergeK kvs more) j = some v
  | [], _, _, _, _, h => nomatch h
  | (k, u) :: more, kvs, j, v, hn, h => by
    rw [List.map_cons, List.nodup_cons] at hn
    show valV (mergeK (putK kvs k u) more) j = _
    rcases List.mem_cons.mp h with e | h
    · cases e
      rw [merge_old more _ _ hn.1, valV_put, if_pos rfl]
    · exact merge_new more _ j v hn.2 h
theorem walk_revT {K : PySem.W.Frag} {a : Addr} {xs : List V} : Walk (RT.ItvT K a xs.length) xs.length (fun H => SqT K H a xs) (fun i H x H' => H' = H ∧ xs[xs.length - 1 - i]? = some x) :=
  ⟨fun i H hi h => ⟨hi, xs, xs[xs.length - 1 - i]'(by omega), h, by rw [List.getElem?_eq_getElem (by omega)]⟩, fun H h => Nat.le_refl _, fun i H x H' hi h y => ⟨y.1, y.2 xs h⟩⟩
theorem negL_len (l : List Int) : (negL l).length = l.length := by unfold negL; rw [List.length_map]
theorem negL_order {ns : List Int} (h : Order ns) : Order (negL ns) := ⟨negL_nodup h.nd, fun k hk => by
  obtain ⟨x, hx, rfl⟩ := List.mem_map.mp hk
  have := h.rng x hx
  unfold InR at this ⊢
  omega, by rw [negL_len]; exact h.len⟩
theorem negL_asc {ns ms : List Int} (h : Asc ms ns) : Asc (negL ms.reverse) (negL ns) := ⟨by
  unfold negL
  exact (h.1.symm.trans (List.reverse_perm ms).symm).symm.map _, by
  unfold negL
  rw [List.pairwise_map, List.pairwise_reverse]
  exact h.2.imp fun z => by omega⟩
def negP (x : Int × Option Int) : Int × Option Int := (0 - x.1, x.2.map fun m => 0 - m)
/-- the negated pairs, the last first, are those of the negated order -/
theorem pairs_neg {ns ms : List Int} (ho : ns.Nodup) (ha : Asc ms ns) : (pairsOf ns ms).reverse.map negP = pairsOf (negL ns) (negL ms.reverse) := by
  unfold pairsOf negL
  rw [← List.map_reverse, List.map_map, List.map_map]
  refine List.map_congr_left fun k hk => ?_
  have hk' : k ∈ ns := (asc_mem ha k).mp (List.mem_reverse.mp hk)
  show (0 - k, (parentIn ns.reverse k).map fun m => 0 - m) = (0 - k, parentIn (negL ns).reverse (0 - k))
  rw [parentIn_eq, parentIn_eq, neg_parent ho hk']
def spMirror : Sp := fun vs H Q _ => ∃ (p : Addr) (ns ms : List Int), vs = [.ref p] ∧ TreeOf H p ns ms ∧ ∀ H' q, Same H H' → H q = none → TreeAt H' q (pairsOf (negL ns) (negL ms.reverse)) → Q (.ref q) H'
/-- the list of paths, by key -/
def Ways (H : Hp) (W p : Addr) (os : List Int) : Prop := ∃ kvs, H W = some (.dK kvs) ∧ ∀ k ∈ os, ∃ b, b ≠ p ∧ valV kvs (Sum.inl k) = some (.ref b) ∧ H b = some (.lst ((pathUp os.reverse k).reverse.map V.int))
theorem Ways.keep {H H' : Hp} {W p : Addr} {os : List Int} (h : Ways H W p os) (s : Same H H') : Ways H' W p os := by
  obtain ⟨kvs, h1, h2⟩ := h
  refine ⟨kvs, s _ _ h1, fun k hk => ?_⟩
  obtain ⟨b, e1, e2, e3⟩ := h2 k hk
  exact ⟨b, e1, e2, s _ _ e3⟩
theorem Ways.keepP {H H' : Hp} {W p : Addr} {os : List Int} (h : Ways H W p os) (hp : PoolAt H p) (k : Kp p H H') : Ways H' W p os := by
  obtain ⟨kvs, h1, h2⟩ := h
  obtain ⟨x, y, e, _⟩ := hp
  refine ⟨kvs, k.2 _ _ (ne_of h1 e (fun z => nomatch z)) h1, fun c hk => ?_⟩
  obtain ⟨b, e1, e2, e3⟩ := h2 c hk
  exact ⟨b, e1, e2, k.2 _ _ e1 e3⟩
theorem Ways.get {H : Hp} {W p : Addr} {os : List Int} (h : Ways H W p os) {k : Int} (hk : k ∈ os) : ∃ b, b ≠ p ∧ DGet H W (.int k) (some (.ref b)) ∧ H b = some (.lst ((pathUp os.reverse k).reverse.map V.int)) := by
  obtain ⟨kvs, h1, h2⟩ := h
  obtain ⟨b, e1, e2, e3⟩ := h2 k hk
  refine ⟨b, e1, ?_, e3⟩
  have := DGet.k (k := Sum.inl k) h1
  rw [e2] at this
  exact this
theorem cut_ints (ns : List Int) (lo hi : Option Int) : ∃ l : List Int, cutV (ns.map V.int) lo hi = l.map V.int ∧ l.length ≤ ns.length ∧ ∀ x ∈ l, x ∈ ns := by
  unfold cutV
  refine ⟨(ns.drop (HT.sIx (ns.map V.int).length 0 lo)).take (HT.sIx (ns.map V.int).length (ns.map V.int).length hi - HT.sIx (ns.map V.int).length 0 lo), by rw [List.map_take, List.map_drop], ?_, fun x hx => List.mem_of_mem_drop (List.mem_of_mem_take hx)⟩
  rw [List.length_take, List.length_drop]
  omega
theorem last_at {l : List Int} {x : Int} (h : l.getLast? = some x) : atI (l.map V.int) (-1) = some (.int x) := by
  rcases List.eq_nil_or_concat l with e | ⟨l', y, e⟩
  · subst e
    cases h
  · subst e
    rw [List.concat_eq_append, List.getLast?_append] at h
    rw [List.concat_eq_append, List.map_append]
    have : y = x := Option.some.inj h
    subst this
    exact atI_last (l'.map V.int) (V.int y)
/-- the keys below a key, by who is above whom -/
theorem below_perm {os ms l : List Int} {k : Int} (ho : os.Nodup) (ha : Asc ms os) (hk : k ∈ os) (hp : l.Perm (k :: os.filter fun o => decide (k ≠ o ∧ firstB os k o = some k))) (hs : l.Pairwise (· ≤ ·)) : l = belowL os ms k := by
  refine List.Perm.eq_of_pairwise (le := (· ≤ ·)) (fun _ _ _ _ => Int.le_antisymm) hs (ha.2.sublist List.filter_sublist) (hp.trans ?_)
  have hmn : ms.Nodup := ha.1.nodup_iff.mpr ho
  refine (List.perm_ext_iff_of_nodup ?_ (hmn.sublist List.filter_sublist)).mpr fun o => ?_
  · rw [List.nodup_cons]
    exact ⟨fun z => (of_decide_eq_true (List.mem_filter.mp z).2).1 rfl, ho.sublist List.filter_sublist⟩
  · skip
    rw [List.mem_cons, List.mem_filter, List.mem_filter, asc_mem ha, decide_eq_true_iff, decide_eq_true_iff]
    have hr := rev_nodup ho
    constructor
    · rintro (e | ⟨h1, h2⟩)
      · subst e
        refine ⟨hk, ?_⟩
        rw [pathUp_eq _ hr o (List.mem_reverse.mpr hk)]
        exact List.mem_cons_self
      · refine ⟨h1, ?_⟩
        rw [on_path_iff hr (List.mem_reverse.mpr hk) (List.mem_reverse.mpr h1), List.reverse_reverse]
        exact h2.2
    · rintro ⟨h1, h2⟩
      by_cases e : o = k
      · exact .inl e
      · refine .inr ⟨h1, fun z => e z.symm, ?_⟩
        rw [on_path_iff hr (List.mem_reverse.mpr hk) (List.mem_reverse.mpr h1), List.reverse_reverse] at h2
        exact h2
theorem depths_neg {ns : List Int} (h : ns.Nodup) : depthsOf (negL ns) (negL ns) = depthsOf ns ns := by
  have gen : ∀ ms : List Int, (∀ k ∈ ms, k ∈ ns) → depthsOf (negL ns) (negL ms) = depthsOf ns ms := fun ms hm => by
    unfold depthsOf
    conv => lhs; unfold negL
    rw [List.map_map]
    refine List.map_congr_left fun k hk => ?_
    show ((aboveOf (negL ns) (0 - k)).length : Int) = _
    rw [neg_above h (hm k hk), negL_len]
  exact gen ns fun _ h => h
theorem path_len {ns : List Int} (h : ns.Nodup) {k : Int} (hk : k ∈ ns) : (((pathUp ns.reverse k).reverse.map V.int).length : Int) - 1 = ((aboveOf ns k).length : Int) := by
  rw [List.length_map, path_above h hk, List.length_append]
  simp
end
end T1
namespace T1
open PySem PySem.Spec PyProof.Rows L2 TK BstM DatI
section
variable {P : Program} {w : World} {K : PySem.W.Frag} {mg : Str → Option Value} {base : Heap}
def spSameKeys : Sp := fun vs H Q _ => ∃ (a b : Addr) (ns ms : List Int), vs = [.ref a, .ref b] ∧ H a = some (.lst (ns.map V.int)) ∧ H b = some (.lst (ms.map V.int)) ∧ ns.length ≤ 40 ∧ ms.length ≤ 40 ∧ (∀ k, k ∈ ns ↔ k ∈ ms) ∧ ∀ H', Same H H' → Q .non H'
def spTwo : Sp := fun vs H Q _ => ∃ (a b : Addr) (ns ms : List Int), vs = [.ref a, .ref b] ∧ H a = some (.lst (ns.map V.int)) ∧ H b = some (.lst (ms.map V.int)) ∧ Order ns ∧ ms.Perm ns ∧ ∀ H', Same H H' → Q .non H'
/-- the first key of the list whose paths differ -/
def diffOf (ns ms l : List Int) : Option Int := l.find? fun k => decide (aboveOf ns k ≠ aboveOf ms k)
def spDiff : Sp := fun vs H Q _ => ∃ (a b : Addr) (ns ms : List Int), vs = [.ref a, .ref b] ∧ H a = some (.lst (ns.map V.int)) ∧ H b = some (.lst (ms.map V.int)) ∧ Order ns ∧ ms.Perm ns ∧
  ∀ l, Asc l ns → (diffOf ns ms l = none → ∀ H', Same H H' → Q .non H') ∧ (∀ k, diffOf ns ms l = some k → ∀ H' t p q, Same H H' → H t = none → H p = none → H q = none → p ≠ q → H' t = some (.tup [.int k, .ref p, .ref q]) → H' p = some (.lst ((pathUp ns.reverse k).reverse.map V.int)) → H' q = some (.lst ((pathUp ms.reverse k).reverse.map V.int)) → Q (.ref t) H')
def spSameT : Sp := fun vs H Q _ => ∃ (a b : Addr) (ns ms : List Int), vs = [.ref a, .ref b] ∧ H a = some (.lst (ns.map V.int)) ∧ H b = some (.lst (ms.map V.int)) ∧ Order ns ∧ ms.Perm ns ∧
  ∀ l, Asc l ns → ∀ H', Same H H' → Q (.bl (decide (diffOf ns ms l = none))) H'
/-- an ascending list -/
theorem asc_exists (ns : List Int) : ∃ l, Asc l ns := by
  refine ⟨ns.mergeSort (fun a b => decide (a ≤ b)), List.mergeSort_perm _ _, ?_⟩
  have := List.pairwise_mergeSort (le := fun a b : Int => decide (a ≤ b)) (fun a b c h1 h2 => by simp at *; omega) (fun a b => by simp; omega) ns
  exact this.imp fun h => of_decide_eq_true h
/-- another order of the same tree -/
def spSTO : Sp := fun vs H Q _ => ∃ (p c : Addr) (os : List Int), vs = [.ref p, .ref c] ∧ PoolAt H p ∧ c ≠ p ∧ H c = some (.lst (os.map V.int)) ∧ Order os ∧
  ∀ (H' : Hp) (q : Addr) (ms : List Int), Kp p H H' → H q = none → q ≠ p → H' q = some (.lst (ms.map V.int)) → ms.Perm os → Later os.reverse ms.reverse → Q (.ref q) H'
/-- another order of the same keys -/
def spOther : Sp := fun vs H Q _ => ∃ (p c : Addr) (os : List Int), vs = [.ref p, .ref c] ∧ PoolAt H p ∧ c ≠ p ∧ H c = some (.lst (os.map V.int)) ∧ Order os ∧
  ∀ (H' : Hp) (q : Addr) (ms : List Int), Kp p H H' → H q = none → q ≠ p → H' q = some (.lst (ms.map V.int)) → ms.Perm os → Q (.ref q) H'
theorem ne_pool {p q : Addr} {H : Hp} (h : PoolAt H p) (n : H q = none) : q ≠ p := fun e => by
  obtain ⟨x, y, e2, _⟩ := h
  rw [e, e2] at n
  cases n
theorem pool_same {p : Addr} {H H' : Hp} (h : PoolAt H p) (s : Same H H') : PoolAt H' p := by
  obtain ⟨x, y, e, z⟩ := h
  exact ⟨x, y, s _ _ e, z⟩
theorem at_draw {os : List Int} {r : Int} (r0 : 0 ≤ r) (r1 : r < (os.length : Int)) : ∃ h : r.toNat < os.length, atI (os.map V.int) r = some (.int os[r.toNat]) := by
  have hr : r.toNat < os.length := by omega
  refine ⟨hr, ?_⟩
  have := atI_nat (xs := os.map V.int) (j := r.toNat) (v := .int os[r.toNat]) (by rw [List.getElem?_map, List.getElem?_eq_getElem hr]; rfl)
  rw [show ((r.toNat : Nat) : Int) = r by omega] at this
  exact this
end
end T1
namespace L2
open PySem PySem.Spec PyProof.Rows
/-- the inner walk of a comprehension with two clauses -/
theorem in_it {J1 : It} {n : Nat} {G : Hp → Prop} {Y : Nat → Hp → V → Hp → Prop} (w : Walk J1 n G Y) {g1 : TG} {tt1 : TT} {te : TE} {vs1 : List Nat} {σ2 : St} {H4 : Hp} {D : Addr} {Nx : Hp → Prop} (Pv : Nat → Hp → Prop) (h0 : Pv 0 H4) (hG : ∀ j H, j ≤ n → Pv j H → G H)
    (hs : ∀ j x H H', j < n → Pv j H → Y j H x H' → g1 x (wipe σ2 vs1) H' fun σ3 H5 => wipe σ3 vs1 = wipe σ2 vs1 ∧ tt1 σ3 H5 fun b H6 => if b = true then te σ3 H6 fun y H7 => ∃ acc, H7 D = some (.lst acc) ∧ acc.length < sizeLine ∧ Pv (j + 1) (upd H7 D (.lst (acc ++ [y]))) else Pv (j + 1) H6)
    (hd : ∀ H, Pv n H → Nx H) :
    ∃ W1 : Nat → Nat → Hp → Prop, (∃ m, W1 0 m H4) ∧ ∀ j k H, W1 j k H →
      (J1.stop j H ∧ Nx H) ∨ (J1.go j H ∧ ∃ Nx1 : Hp → Prop, (∀ H', Nx1 H' → ∃ k', k' < k ∧ W1 (j + 1) k' H') ∧ ∀ x H', J1.yld j H x H' → g1 x (wipe σ2 vs1) H' fun σ3 H5 => wipe σ3 vs1 = wipe σ2 vs1 ∧ tt1 σ3 H5 fun b H6 =>
        if b = true then te σ3 H6 fun y H7 => ∃ acc, H7 D = some (.lst acc) ∧ acc.length < sizeLine ∧ Nx1 (upd H7 D (.lst (acc ++ [y]))) else Nx1 H6) := by
  refine ⟨fun j k H => k = n - j ∧ j ≤ n ∧ Pv j H, ⟨n, by simp, Nat.zero_le _, h0⟩, fun j k H hW => ?_⟩
  obtain ⟨rfl, hj, hP⟩ := hW
  have hg := hG j H hj hP
  by_cases hlt : j < n
  · exact .inr ⟨w.goes j H hlt hg, Pv (j + 1), fun H' hP' => ⟨n - (j + 1), by omega, rfl, hlt, hP'⟩, fun x H' hy => hs j x H H' hlt hP (w.yields j H x H' hlt hg hy)⟩
  · obtain rfl : j = n := by omega
    exact .inl ⟨w.stops H hg, hd H hP⟩
/-- the outer walk -/
theorem out_it {J : It} {n : Nat} {G : Hp → Prop} {Y : Nat → Hp → V → Hp → Prop} (w : Walk J n G Y) {g : TG} {tt : TT} {wi1 : TI} {g1 : TG} {tt1 : TT} {te : TE} {vs vs1 : List Nat} {σ : St} {H1 : Hp} {D : Addr} {Qd : Hp → Prop} (Pv : Nat → Hp → Prop) (h0 : Pv 0 (upd H1 D (.lst []))) (hG : ∀ i H, i ≤ n → Pv i H → G H)
    (hs : ∀ i x H H', i < n → Pv i H → Y i H x H' → g x (wipe σ vs) H' fun σ2 H2 => wipe σ2 vs = wipe σ vs ∧ tt σ2 H2 fun b H3 => if b = true then wi1 σ2 H3 fun J1 H4 => ∃ W1 : Nat → Nat → Hp → Prop, (∃ m, W1 0 m H4) ∧ ∀ j k H, W1 j k H →
      (J1.stop j H ∧ Pv (i + 1) H) ∨ (J1.go j H ∧ ∃ Nx1 : Hp → Prop, (∀ H', Nx1 H' → ∃ k', k' < k ∧ W1 (j + 1) k' H') ∧ ∀ x H', J1.yld j H x H' → g1 x (wipe σ2 vs1) H' fun σ3 H5 => wipe σ3 vs1 = wipe σ2 vs1 ∧ tt1 σ3 H5 fun b H6 =>
        if b = true then te σ3 H6 fun y H7 => ∃ acc, H7 D = some (.lst acc) ∧ acc.length < sizeLine ∧ Nx1 (upd H7 D (.lst (acc ++ [y]))) else Nx1 H6) else Pv (i + 1) H3)
    (hd : ∀ H, Pv n H → Qd H) :
    ∃ W : Nat → Nat → Hp → Prop, (∃ m, W 0 m (upd H1 D (.lst []))) ∧ ∀ i m H, W i m H →
  (J.stop i H ∧ Qd H) ∨ (J.go i H ∧ ∃ Nx : Hp → Prop, (∀ H', Nx H' → ∃ m', m' < m ∧ W (i + 1) m' H') ∧ ∀ x H', J.yld i H x H' → g x (wipe σ vs) H' fun σ2 H2 => wipe σ2 vs = wipe σ vs ∧ tt σ2 H2 fun b H3 =>
    if b = true then wi1 σ2 H3 fun J1 H4 => ∃ W1 : Nat → Nat → Hp → Prop, (∃ m, W1 0 m H4) ∧ ∀ j k H, W1 j k H →
      (J1.stop j H ∧ Nx H) ∨ (J1.go j H ∧ ∃ Nx1 : Hp → Prop, (∀ H', Nx1 H' → ∃ k', k' < k ∧ W1 (j + 1) k' H') ∧ ∀ x H', J1.yld j H x H' → g1 x (wipe σ2 vs1) H' fun σ3 H5 => wipe σ3 vs1 = wipe σ2 vs1 ∧ tt1 σ3 H5 fun b H6 =>
        if b = true then te σ3 H6 fun y H7 => ∃ acc, H7 D = some (.lst acc) ∧ acc.length < sizeLine ∧ Nx1 (upd H7 D (.lst (acc ++ [y]))) else Nx1 H6)
    else Nx H3) := by
  refine ⟨fun i m H => m = n - i ∧ i ≤ n ∧ Pv i H, ⟨n, by simp, Nat.zero_le _, h0⟩, fun i m H hW => ?_⟩
  obtain ⟨rfl, hi, hP⟩ := hW
  have hg := hG i H hi hP
  by_cases hlt : i < n
  · exact .inr ⟨w.goes i H hlt hg, Pv (i + 1), fun H' hP' => ⟨n - (i + 1), by omega, rfl, hlt, hP'⟩, fun x H' hy => hs i x H H' hlt hP (w.yields i H x H' hlt hg hy)⟩
  · obtain rfl : i = n := by omega
    exact .inl ⟨w.stops H hg, hd H hP⟩
end L2
namespace T1
open PySem PySem.Spec PyProof.Rows L2 TK BstM DatI
section
variable {P : Program} {w : World} {K : PySem.W.Frag} {mg : Str → Option Value} {base : Heap}
/-- the place of a key, as list.index finds it -/
theorem pl_index {ms : List Int} (hn : ms.Nodup) {k : Int} (hk : k ∈ ms) : (ms.map V.int)[pl ms k]? = some (.int k) ∧ eqV (.int k) (.int k) = true ∧ ∀ (m : Nat) (z' : V), m < pl ms k → (ms.map V.int)[m]? = some z' → eqV z' (.int k) = false := by
  refine ⟨by rw [List.getElem?_map, List.getElem?_eq_getElem (pl_lt hk), pl_get hk]; rfl, (by show (k == k) = true; exact beq_self_eq_true k), fun m z' hm hz => ?_⟩
  obtain ⟨hm', rfl⟩ := get_int hz
  show (ms[m] == k) = false
  rw [beq_eq_false_iff_ne]
  intro e
  have h1 := pl_ix hn hm'
  rw [e] at h1
  omega
def spDist : Sp := fun vs H Q _ => ∃ (a b : Addr) (ns ms : List Int), vs = [.ref a, .ref b] ∧ H a = some (.lst (ns.map V.int)) ∧ H b = some (.lst (ms.map V.int)) ∧ Order ns ∧ ms.Perm ns ∧ ∀ H', Same H H' → Q (.int (dist ns ms : Nat)) H'
theorem dist_le {ns ms : List Int} (h : ns.length ≤ 40) : dist ns ms ≤ 1600 := by
  have h1 := invL_le (ranks ns ms)
  have h2 : (ranks ns ms).length = ns.length := by unfold ranks; rw [List.length_map]
  rw [h2] at h1
  have : ns.length * ns.length ≤ 40 * 40 := Nat.mul_le_mul h h
  unfold dist
  omega
theorem ones_sum : ∀ c : Nat, (List.replicate c (1 : Int)).sum = (c : Int)
  | 0 => rfl
  | c + 1 => by rw [List.replicate_succ, List.sum_cons, ones_sum c]; omega
theorem small1600 {n : Nat} (h : n ≤ 1600) : n < sizeLine := Nat.lt_of_le_of_lt h (by decide)
theorem invL_drop {l : List Int} {i : Nat} (h : i < l.length) : invL (l.drop i) = ((l.drop (i + 1)).filter fun x => decide (x < l[i])).length + invL (l.drop (i + 1)) := by
  rw [List.drop_eq_getElem_cons h]
  rfl
end
end T1
/-! dict == dict, both answers, where the values are None or ints; repr of a bool -/
namespace L2
open PySem PySem.Spec PyProof.Rows
inductive OI : V → Prop where
  | non : OI .non
  | int (i : Int) : OI (.int i)
theorem eqAt_oi {A : Around} {s : Shared} {v v' : V} {u u' : Value} (h : OI v) (h' : OI v') (r : RelV v u) (r' : RelV v' u') : SeqAt.EqAt A s u u' (decide (v = v')) := by
  cases h with
  | non =>
    obtain rfl : u = Value.none := r
    cases h' with
    | non =>
      obtain rfl : u' = Value.none := r'
      exact SeqAt.EqAt.same _
    | int j =>
      obtain ⟨t, rfl⟩ := (show ∃ t, u' = Value.int j t from r')
      exact SeqAt.EqAt.none_int j t
  | int i =>
    obtain ⟨t, rfl⟩ := (show ∃ t, u = Value.int i t from r)
    cases h' with
    | non =>
      obtain rfl : u' = Value.none := r'
      exact SeqAt.EqAt.int_none i t
    | int j =>
      obtain ⟨t', rfl⟩ := (show ∃ t, u' = Value.int j t from r')
      have e : decide (V.int i = V.int j) = (i == j) := by
        rw [Bool.eq_iff_iff]
        simp
      rw [e]
      exact SeqAt.EqAt.int_int i t j t'
def allIn {κ : Type} [DecidableEq κ] (ls : List (κ × V)) (ks : List (κ × V)) : Bool := ks.all fun p => decide (valV ls p.1 = some p.2)
theorem hits_oi {κ : Type} [DecidableEq κ] {A : Around} {s : Shared} {ls : List (κ × V)} {vb : List (κ × Value)} (rb : KV ls vb) (hl : ∀ p ∈ ls, OI p.2) : ∀ {ks : List (κ × V)} {va : List (κ × Value)}, KV ks va → (∀ p ∈ ks, OI p.2) → PySem.W.KeqHits A s vb va (allIn ls ks) := by
  intro ks va ra
  unfold KV at ra
  induction ra with
  | nil => intro _; exact .nil
  | @cons p q ps qs h t ih =>
    intro hk
    obtain ⟨h1, h2⟩ := h
    obtain ⟨k, v⟩ := q
    have h1' : p.1 = k := h1
    have rr := rb.val p.1
    have ih' := ih fun p' hm => hk p' (List.mem_cons_of_mem _ hm)
    cases e : valV ls p.1 with
    | none =>
      rw [e] at rr
      have hm : valueAt vb k = none := by
        rw [← h1']
        cases e2 : valueAt vb p.1 with
        | none => rfl
        | some y => rw [e2] at rr; exact rr.elim
      have hb : allIn ls (p :: ps) = false := by
        unfold allIn
        rw [List.all_cons, e]
        rfl
      rw [hb]
      exact .miss hm
    | some y =>
      rw [e] at rr
      obtain ⟨u, hu, ru⟩ := rr.some_of
      rw [h1'] at hu
      have hy : OI y := by
        have hf : ∃ z ∈ ls, z.2 = y := by
          unfold valV at e
          obtain ⟨z, hz, ez⟩ := Option.map_eq_some_iff.mp e
          exact ⟨z, List.mem_of_find?_eq_some hz, ez⟩
        obtain ⟨z, hz, ez⟩ := hf
        rw [← ez]
        exact hl z hz
      have hb : allIn ls (p :: ps) = (decide (p.2 = y) && allIn ls ps) := by
        unfold allIn
        rw [List.all_cons, e]
        congr 1
        rw [decide_eq_decide]
        exact ⟨fun z => (Option.some.inj z).symm, fun z => by rw [z]⟩
      rw [hb]
      exact .hit hu (eqAt_oi (hk p List.mem_cons_self) hy h2 ru) ih'
section
variable {X : Cx}
def rEqOI : R2 := fun x y H Q => ∃ a b ks ls, x = .ref a ∧ y = .ref b ∧ H a = some (.dK ks) ∧ H b = some (.dK ls) ∧ (∀ p ∈ ks, OI p.2) ∧ (∀ p ∈ ls, OI p.2) ∧ Q (.bl (ks.length == ls.length && allIn ls ks)) H
theorem op_eqOI (hu : X.A.units < cLine) : OpR X (compareOp .Eq) rEqOI := by
  intro pins s σ H x y v u Q I rx ry h
  obtain ⟨a, b, ks, ls, rfl, rfl, ea, eb, hk, hl, q⟩ := h
  obtain rfl : v = Value.ref a := rx
  obtain rfl : u = Value.ref b := ry
  obtain ⟨_, ya, va, ra, da⟩ := (show ObjOk X.prog X.w H s.heap a (.dK ks) from I.hok a _ ea)
  obtain ⟨_, yb, vb, rb, db⟩ := (show ObjOk X.prog X.w H s.heap b (.dK ls) from I.hok b _ eb)
  exact PySem.W.keq_eq (knd := mixKind X.prog X.w) (r := allIn ls ks) ya yb da db hu (fun _ => hits_oi rb hl ra hk) (fin_bl I q (by rw [ra.length, rb.length]))
theorem call_reprB : CallR X (.builtin "repr") (fun xs H Q => ∃ b : Bool, xs = [.bl b] ∧ Q (.str (if b then Str.ofString "True" else Str.ofString "False")) H) := by
  intro pins s σ H xs us Q I r h
  obtain ⟨b, rfl, q⟩ := h
  obtain ⟨u, rfl, ru⟩ := vals1 r
  obtain rfl : u = Value.bool b := ru
  refine PySem.P.repr_of_bool ⟨.str _, H, I.tok _, ⟨_, rfl⟩, ?_⟩
  exact q
end
end L2
/-! a tuple backwards: t[::-1] -/
namespace L2
open PySem PySem.Spec PyProof.Rows
section
variable {prog : Program} {w : World} {A : Around} {E : Value → Shared → Prop} {s : Shared}
theorem adjust_back (n : Nat) : Builtin.Slice.sliceAdjust none none (-1) (n : Int) = ((n : Int) - 1, -1) := rfl
theorem places_back (n : Nat) : Builtin.Slice.slicePlaces ((n : Int) - 1) (-1) (-1) = n := by
  unfold Builtin.Slice.slicePlaces
  rw [if_neg (by decide)]
  by_cases h : (n : Int) - 1 > -1
  · rw [if_pos h, show (- -1 : Int) = 1 from rfl, Int.ediv_one]
    omega
  · rw [if_neg h]
    omega
theorem pick_back (xs : Array Value) : ((List.range xs.size).filterMap fun (m : Nat) => xs[((xs.size : Int) - 1 + (m : Int) * -1).toNat]?).toArray = xs.toList.reverse.toArray := by
  rw [← PySem.W.krv_all xs, ← List.filterMap_reverse, ← PySem.W.krv_range, List.filterMap_map]
  have cong : ∀ l : List Nat, (∀ m ∈ l, m < xs.size) → (l.filterMap fun (m : Nat) => xs[((xs.size : Int) - 1 + (m : Int) * -1).toNat]?) = l.filterMap ((fun x => xs[x]?) ∘ fun k => xs.size - 1 - k) := by
    intro l
    induction l with
    | nil => intro _; rfl
    | cons m l ih =>
      intro hm
      rw [List.filterMap_cons, List.filterMap_cons, ih fun y hy => hm y (List.mem_cons_of_mem _ hy)]
      have h1 := hm m List.mem_cons_self
      have h2 : ((xs.size : Int) - 1 + (m : Int) * -1).toNat = xs.size - 1 - m := by omega
      rw [h2]
      rfl
  rw [cong _ fun m hm => List.mem_range.mp hm]
theorem applied_back {sl : Addr} {vz : Value} {n : Nat} {Q : Int × Int × Nat → Shared → Prop} (hs : s.heap.IsSliceOf sl .none .none vz) (pz : IsPart vz (some (-1))) (h : Q ((n : Int) - 1, -1, n) s) :
    wpAny (model prog w) A (Builtin.Slice.sliceApplied (.ref sl) (pure (n : Int))) Q E s := by
  obtain ⟨ob, hob, _, hdb⟩ := id hs
  unfold Builtin.Slice.sliceApplied Builtin.Slice.sliceFields
  refine wpAny_bind (wpAny_bind (wpAny_field hob hdb (x := .none) rfl (wpAny_bind (wpAny_field hob hdb (x := .none) rfl (wpAny_bind (wpAny_field hob hdb (x := vz) rfl (wpAny_pure ?_)))))))
  refine wpAny_bind (HT.slicePart_ pz ?_)
  show wpAny _ _ (if ((-1 : Int) == 0) = true then _ else _) _ _ s
  rw [if_neg (show ¬ ((-1 : Int) == 0) = true by decide)]
  refine wpAny_bind (slicePart_none (wpAny_bind (slicePart_none (wpAny_bind (wpAny_pure ?_)))))
  show wpAny _ _ (match Builtin.Slice.sliceAdjust none none (-1) (n : Int) with | (lo, hi) => pure (lo, (-1 : Int), Builtin.Slice.slicePlaces lo hi (-1))) _ _ s
  rw [adjust_back n]
  show wpAny _ _ (pure ((n : Int) - 1, (-1 : Int), Builtin.Slice.slicePlaces ((n : Int) - 1) (-1) (-1))) _ _ s
  rw [places_back]
  exact wpAny_pure h
theorem tup_back {t sl : Addr} {xs : Array Value} {vz : Value} {Q : Value → Shared → Prop} (hq : IsTup s.heap t xs) (hs : s.heap.IsSliceOf sl .none .none vz) (pz : IsPart vz (some (-1)))
    (h : Q (.ref s.heap.objs.size) { s with heap := s.heap.push { cls := .type "tuple", data := .seq xs.toList.reverse.toArray } }) (hsz : xs.size ≤ sizeLine) : wpAny (model prog w) A (getItem (.ref t) (.ref sl)) Q E s := by
  have hok : sizeOk (.seq xs.toList.reverse.toArray) := by
    show xs.toList.reverse.toArray.size ≤ sizeLine
    rw [List.size_toArray, List.length_reverse, Array.length_toList]
    exact hsz
  obtain ⟨ob, hob, hcb, _⟩ := id hs
  have hTb : s.TypeIs (.ref sl) "slice" := ⟨ob, hob, hcb⟩
  unfold getItem
  try with_reducible refine wpAny_holding ?_
  first | refine wpAny_bind (wpAny_pure ?_) | skip
  refine wpAny_bind (wpAny_sequenceKey hq.typeIs (by decide) ?_)
  refine wpAny_bind (wpAny_callSpecial?_slot (name := Str.ofString "__getitem__") hq.typeIs PyProof.Rows.slot_tuple_getitem (wpAny_call_entry PyProof.Rows.slot_tuple_getitem hq.typeIs entry_tuple_getitem ?_ (args_tuple_getitem _ _)))
  show wpAny _ _ (Builtin.Tuple.tupleItemsOf (.ref t) >>= _) _ _ s
  refine wpAny_bind (tupleItemsOf_ hq (wpAny_bind (wpAny_typeOf hTb ?_)))
  rw [if_pos (by decide)]
  refine wpAny_bind (applied_back hs pz ?_)
  have hno : ¬ ((((xs.size : Int) - 1) == 0 && (-1 : Int) == 1 && xs.size == xs.size) = true) := by
    intro q
    rw [Bool.and_eq_true, Bool.and_eq_true] at q
    exact absurd q.1.2 (by decide)
  show wpAny _ _ (if (((xs.size : Int) - 1) == 0 && (-1 : Int) == 1 && xs.size == xs.size) = true then _ else _) _ _ s
  rw [if_neg hno, pick_back]
  first
    | exact wpAny_bind (m := Builtin.Tuple.tupleExact _) (wpAny_newObj_type (wpAny_pure ⟨_, rfl, wpAny_pure h⟩) hok)
    | exact wpAny_bind (m := Builtin.Tuple.tupleExact _) (wpAny_newObj_type (wpAny_bind (wpAny_pure (wpAny_pure ⟨_, rfl, wpAny_pure h⟩))) hok)
    | exact wpAny_bind (wpAny_bind (m := Builtin.Tuple.tupleExact _) (wpAny_newObj_type (wpAny_pure (wpAny_pure ⟨_, rfl, wpAny_pure h⟩)) hok))
    | exact wpAny_bind (wpAny_bind (m := Builtin.Tuple.tupleExact _) (wpAny_newObj_type (wpAny_pure ⟨_, rfl, wpAny_pure h⟩) hok))
end
section
variable {X : Cx}
def tRevT (K : PySem.W.Frag) (te : TE) : TE := fun σ H Q => te σ H fun x H1 => ∃ a xs, x = .ref a ∧ SqT K H1 a xs ∧ ∀ p, H1 p = none → Q (.ref p) (upd H1 p (.tup xs.reverse))
theorem pe_revT {e : Expr} {te : TE} {k : Nat} {p1 p2 p3 pos : Pos} (he : PE X e te) : PE X (.Subscript e (.Slice none none (some (.UnaryOp .USub (.Constant (.int 1) k p1) p2)) p3) pos) (tRevT X.K te) := by
  refine ⟨fun pins s σ H Q I h => ?_⟩
  refine Subscript_ (thn (he.run pins s σ H _ I h) fun v s1 ⟨x, H1, I1, r1, a, xs, ex, hx, q⟩ => ?_)
  subst ex
  cases r1
  have hst : PO X (some (.UnaryOp .USub (.Constant (.int 1) k p1) p2)) (tPart (tUn (rU fun i => .int (-i)) (tC (.int 1)))) := po_some (pe_un un_neg pe_int)
  refine wpAny_Slice (thn (po_none.run pins s1 σ H1 (fun o H2 => o = none ∧ H2 = H1) I1 ⟨rfl, rfl⟩) fun vl s2 ⟨l, H2, I2, pl, el, e2⟩ => thn (po_none.run pins s2 σ H2 (fun o H3 => o = none ∧ H3 = H2) I2 ⟨rfl, rfl⟩) fun vu s3 ⟨u, H3, I3, pu, eu, e3⟩ => ?_)
  subst el e2 eu e3
  refine thn (hst.run pins s3 σ H3 (fun o H4 => o = some (-1) ∧ H4 = H3) I3 ⟨1, rfl, -1, rfl, rfl, rfl⟩) fun vz s4 ⟨o, H4, I4, pz, eo, e4⟩ => ?_
  subst eo e4
  cases pl
  cases pu
  have I5 : Inv X pins σ H4 { s4 with heap := s4.heap.push { cls := .type "slice", data := .fields #[.none, .none, vz] } } := I4.kept (t' := s4.toks) fun b ob q => Heap.get?_push_of_some _ q
  obtain ⟨its, r, ht, hz⟩ := I5.tuple hx
  have hlen := r.length
  show wpAny (model X.prog X.w) X.A (subscriptTail e (.Slice none none (some (.UnaryOp .USub (.Constant (.int 1) k p1) p2)) p3) (.ref a) (.ref s4.heap.objs.size)) (EP X pins σ Q) X.xe { s4 with heap := s4.heap.push { cls := .type "slice", data := .fields #[.none, .none, vz] } }
  refine tail_any (ops := [.ref a, .ref s4.heap.objs.size]) ht.typeIs (PyProof.Rows.slot_tuple_getitem.lookup) ?_ (by with_unfolding_all rfl)
  refine tup_back ht (Heap.IsSliceOf.new _ .none .none vz) pz ?_ (by rw [List.size_toArray]; omega)
  refine ⟨.ref _, _, I5.laid (t' := s4.toks) (o := .tup xs.reverse) (fun b ob q => Heap.get?_push_of_some _ q) (Nat.le_refl _) ?_, rfl, q _ (I5.hok.fresh (Nat.le_refl _))⟩
  exact ⟨by rw [List.length_reverse]; exact hz, _, r.reverse, IsTup.new _ _⟩
/-- t[lo:hi] and t + u, one answer for all cases -/
theorem cutV_whole {xs : List V} {lo hi : Option Int} (h : HT.sIx xs.length 0 lo = 0 ∧ HT.sIx xs.length xs.length hi = xs.length) : cutV xs lo hi = xs := by
  unfold cutV
  rw [h.1, h.2, List.drop_zero, Nat.sub_zero, List.take_length]
theorem cutV_mem {xs : List V} {lo hi : Option Int} {y : V} (h : y ∈ cutV xs lo hi) : y ∈ xs := List.mem_of_mem_drop (List.mem_of_mem_take h)
def rSlU : V → Option Int → Option Int → Hp → VK → Prop := fun x lo hi H Q => ∃ a xs, x = .ref a ∧ H a = some (.tup xs) ∧ ∀ b H', (∀ c o, H c = some o → H' c = some o) → H' b = some (.tup (cutV xs lo hi)) → Q (.ref b) H'
theorem sl_tupU : SlR X rSlU := by
  intro pins s σ H x v vl vu lo hi sl Q I rx hs pl pu ⟨a, xs, ex, ha, q⟩
  refine sl_tupA pins s σ H x v vl vu lo hi sl Q I rx hs pl pu ⟨a, xs, ex, SqT.of ha, fun hw => q a H (fun _ _ e => e) (by rw [cutV_whole hw]; exact ha), fun _ p np => q p _ (fun c o e => ?_) upd_same⟩
  rw [upd_ne (ne_of_none e np)]
  exact e
def rCatU : R2 := fun x y H Q => ∃ a b xs ys, x = .ref a ∧ y = .ref b ∧ H a = some (.tup xs) ∧ H b = some (.tup ys) ∧ xs.length + ys.length ≤ sizeLine ∧ ∀ c H', (∀ c o, H c = some o → H' c = some o) → H' c = some (.tup (xs ++ ys)) → Q (.ref c) H'
theorem op_catU : OpR X (binaryOp .Add) rCatU := by
  intro pins s σ H x y v u Q I rx ry ⟨a, b, xs, ys, ex, ey, ha, hb, hz, q⟩
  refine op_catA pins s σ H x y v u Q I rx ry ⟨a, b, xs, ys, ex, ey, SqT.of ha, SqT.of hb, hz, fun z => q b H (fun _ _ e => e) (by rw [z]; exact hb), fun _ z => q a H (fun _ _ e => e) (by rw [z, List.append_nil]; exact ha), fun _ _ p np => q p _ (fun c o e => ?_) upd_same⟩
  rw [upd_ne (ne_of_none e np)]
  exact e
end
end L2
/-! repr of data, where no repr is under way; the law's own frame, of which that is known -/
namespace L2
open PySem PySem.Spec PyProof.Rows
theorem call_reprD {X : Cx} (hg : X.A.guards = some []) (hu : X.A.units + 64 < cLine) : CallR X (.builtin "repr") (fun xs H Q => ∃ a d, xs = [.ref a] ∧ Dp X.K H (.ref a) d ∧ d.showable = true ∧ d.hasDict = false ∧ d.depth ≤ 20 ∧ d.shown.length ≤ sizeLine ∧ Q (.str d.shown) H) := by
  intro pins s σ H xs us Q I r h
  obtain ⟨a, d, rfl, hd, hs, hn, hdp, hz, q⟩ := h
  obtain ⟨u, rfl, ru⟩ := vals1 r
  obtain rfl : u = Value.ref a := ru
  obtain ⟨as, rd⟩ := Dp.reads I d _ _ hd rfl
  exact repr_of_reads' rd hs (fun z => by rw [hn] at z; cases z) hg (by omega) (fun _ _ e => e) (fun h' t tk hk => ⟨.str d.shown, H, I.kept hk, ⟨t, rfl⟩, q⟩) hz
/-- the law's def, called by the row itself -/
theorem top_run {CX : CXT} {P : Program} {w : World} {K : PySem.W.Frag} {mg : Str → Option Value} {base : Heap} {k : Nat} {f : Addr} {x qual y : Str} {st : Stmt} {fd : FuncData} {N : List Str} {s : Shared} {H : Hp} {u : Value} {v : V} {Q : VK} {E : XK}
    (F : Fun K x qual st f fd) (S : FnScope N [y] (defScope st)) (hr : Room (k + 1) callerA) (e0 : Env0 P w K mg base callerA [] s H) (hb : BindsTo s fd ⟨[u], []⟩ ([y].zip [u])) (r : RelV v u)
    (body : ∀ (cdv : Value), Room k (callerA.deeper (envOfC qual (defScope st) s.heap.objs.size f cdv)) → ∃ t, PSs (cxOf CX P w K mg base N qual (defScope st) f cdv callerA [] s H E) (defBody st) t ∧ t { nx := fun _ H' => Q .non H', rt := Q } (start N [v]) H) :
    codeAny (model P w) callerA (.call (.ref f) ⟨[u], []⟩) (CR CX [] P w H s Q E) s := by
  obtain ⟨oc, od, kV, doc, pm, an, cdv, ct, osl, rfl, lk, hcd⟩ := F.ex
  have kin : K.In s.heap := e0.mod.kin.keeps fun b o e => (e0.bs b o e).1
  have nolim : s.heap.NoLimit := e0.mod.nolimit.keeps fun b o e => (e0.bs b o e).1
  have kinds : ∀ z ∈ [y].zip [u], (defScope st).names.lookup z.1 = some .local ∨ ((defScope st).names.lookup z.1 = some .cell ∧ ((cellsFrom (s.heap.objs.size + 1) (defScope st).names []).lookup z.1).isSome = true) := fun z hz => by
    obtain ⟨n, c⟩ := z
    rcases S.par n (List.of_mem_zip hz).1 with e | e
    · exact Or.inl e
    · exact Or.inr ⟨e, PySem.W.cellsFrom_some _ _ _ (Or.inl e)⟩
  refine codeAny_call_function (Room.depth hr) (kin _ _ lk) rfl S.co S.gen rfl (PySem.W.codeRec_of kin hcd) (hb _ _ _ _ (wpAny_newFunctionEnv_cells S.kind kinds fun env he s1 ic => ?_))
  subst he
  refine ⟨nolim.keeps ic.toInCall.keep, codeAny_func ?_⟩
  obtain ⟨t, ht, hq⟩ := body cdv (Room.deeper hr _)
  have I0 : Inv (cxOf CX P w K mg base N qual (defScope st) f cdv callerA [] s H E) [] (start N [v]) H s1 := inv_start S hr.hd e0 rfl (.cons r .nil) ic
  refine wpAny_mono (ht.run [] s1 (start N [v]) H _ I0 hq) (fun fl s' hs => ?_) fun _ _ z => z
  have done : ∀ {σ' : St} {H' : Hp} {a : V} {b : Value}, Inv (cxOf CX P w K mg base N qual (defScope st) f cdv callerA [] s H E) [] σ' H' s' → RelV a b → Q a H' → CE [] P w H s Q b s' := fun {σ' H' a b} J ra qa => ⟨a, H', J.os, J.bare, J.base, J.hok, ra, qa⟩
  match fl, hs with
  | .ret b, ⟨a, σ', H', J, ra, qa⟩ => exact done J ra qa
  | .next, ⟨σ', H', J, qa⟩ => exact done (a := V.non) (b := Value.none) J rfl qa
  | .brk, ⟨_, _, _, z⟩ => exact z.elim
  | .cont, ⟨_, _, _, z⟩ => exact z.elim
end L2
namespace L2
open PySem PySem.Spec PyProof.Rows
/-- the head, where the law's promise is wanted at the row's own call alone -/
theorem top_call {P : Program} {w : World} {K : PySem.W.Frag} {mg mb : Str → Option Value} {fa a : Addr} {s₁ : Shared} {vs : List Value} {ns : List Int}
    (kin : K.In s₁.heap) (gl : s₁.heap.Ns mainGlobals mg) (bl : s₁.heap.Ns builtinsNs mb) (bb : ∀ y : Str, y ≠ "__name__" → mb y = bootBuiltins y) (lim : s₁.heap.NoLimit) (gens : s₁.gens = #[])
    (obj : s₁.heap.get? a = some { cls := .type "list", data := .seq vs.toArray }) (hin : IntsAre vs ns) (small : ns.length ≤ sizeLine)
    (go : ∀ (base : Heap) (H : Hp), K.In base → base.Ns mainGlobals mg → SqL K H a (ns.map V.int) → Env0 P w K mg base callerA [] s₁ H →
      codeAny (model P w) callerA (.call (.ref fa) ⟨[.ref a], []⟩) (CR CX0 [] P w H s₁ (fun v _ => v = .bl true) (fun _ _ _ => False)) s₁) :
    codeAny (model P w) callerA (.call (.ref fa) ⟨[.ref a], []⟩) (fun r t => r = .ok (.ret (.bool true)) ∧ OldK s₁.heap t.heap ∧ t.os = s₁.os ∧ AllBare t.gens) s₁ := by
  have hvals := vals_ints hin
  have vlen := hin.length
  have main : ∀ H : Hp, Only H → SqL K H a (ns.map V.int) → HOk P w H s₁.heap → (∀ c, H c ≠ none → c = a) → (H a ≠ none → K.lookup a = none) →
      codeAny (model P w) callerA (.call (.ref fa) ⟨[.ref a], []⟩) (fun r t => r = .ok (.ret (.bool true)) ∧ OldK s₁.heap t.heap ∧ t.os = s₁.os ∧ AllBare t.gens) s₁ := by
    intro H only sq ok onlyA noK
    have low : ∀ {c : Addr} {o : Obj}, s₁.heap.get? c = some o → H c = none → (hidT s₁.heap H).get? c = some o := fun e n => hidT_get e n
    have dictFree : ∀ {c : Addr} {o : Obj} {es : Array DictEntry} {ep : Nat}, s₁.heap.get? c = some o → o.data = .dict es ep → H c = none := fun {c o es ep} e d => by
      cases z : H c with
      | none => rfl
      | some t =>
        have ca : c = a := onlyA c (by rw [z]; exact fun n => nomatch n)
        rw [ca, obj] at e
        obtain rfl := Option.some.inj e
        exact absurd (show Data.seq vs.toArray _ = Data.dict es ep from d) (fun n => nomatch n)
    have keepNs : ∀ {c : Addr} {m : Str → Option Value}, s₁.heap.Ns c m → (hidT s₁.heap H).Ns c m := fun {c m} n => by
      obtain ⟨o, es, ep, e, d, rest⟩ := n
      exact ⟨o, es, ep, low e (dictFree e d), d, rest⟩
    have kinB : K.In (hidT s₁.heap H) := fun c o e => by
      refine low (kin c o e) ?_
      cases z : H c with
      | none => rfl
      | some t =>
        have ca : c = a := onlyA c (by rw [z]; exact fun n => nomatch n)
        rw [ca] at e z
        rw [noK (by rw [z]; exact fun n => nomatch n)] at e
        cases e
    have modu : Mod K mg (hidT s₁.heap H) := by
      obtain ⟨mc, l1, l2⟩ := lim
      exact ⟨kinB, keepNs gl, ⟨mb, keepNs bl, bb⟩, ⟨mc, keepNs l1, l2⟩⟩
    have env : Env0 P w K mg (hidT s₁.heap H) callerA [] s₁ H := ⟨rfl, modu, fun c o e => of_hidT e, Nat.le_of_eq (hidT_size _ _), trivial, fun c hc => absurd (show c ∈ ([] : List Addr) from hc) List.not_mem_nil, ok, .of_eq gens⟩
    refine codeAny_mono (go _ H kinB (keepNs gl) sq env) fun r t h => ?_
    match r, h with
    | .error e, z => exact (show False from z).elim
    | .ok .next, z => exact (show False from z).elim
    | .ok .brk, z => exact (show False from z).elim
    | .ok .cont, z => exact (show False from z).elim
    | .ok (.ret u), ⟨v, H', os, bare, un, ok', rv, hv⟩ =>
      obtain rfl : v = .bl true := hv
      obtain rfl : u = Value.bool true := rv
      refine ⟨rfl, OldK.of_keep fun c o e => ?_, os, bare⟩
      cases z : H c with
      | none => exact un.keep c o e z (fun n => absurd (show c ∈ ([] : List Addr) from n) List.not_mem_nil) (by simp)
      | some t0 =>
        rcases only c with n | ⟨ob, xs, n⟩
        · rw [z] at n
          cases n
        · obtain ⟨e1, _⟩ := ok c _ n
          obtain ⟨e2, _⟩ := ok' c _ (un.frzs c ob _ n)
          rw [e] at e1
          obtain rfl := Option.some.inj e1
          exact e2
  cases hk : K.lookup a with
  | some o =>
    have e := kin a o hk
    rw [obj] at e
    obtain rfl := Option.some.inj e
    exact main (fun _ => none) (fun _ => Or.inl rfl) (Or.inr ⟨_, vs.toArray, _, hk, rfl, rfl, rfl, by rw [List.size_toArray, vlen]; exact small, by simpa using hvals⟩) (fun c u z => absurd (show (none : Option HO) = some u from z) (fun n => nomatch n)) (fun c z => absurd rfl z) (fun z => absurd rfl z)
  | none =>
    refine main (fun c => if c = a then some (.frz { cls := .type "list", data := .seq vs.toArray } (.lst (ns.map V.int))) else none) (fun c => ?_) (Or.inl (Or.inr ⟨_, if_pos rfl⟩)) (fun c u z => ?_) (fun c z => ?_) (fun _ => hk)
    · by_cases ca : c = a
      · exact Or.inr ⟨_, _, if_pos ca⟩
      · exact Or.inl (if_neg ca)
    · by_cases ca : c = a
      · obtain rfl := Option.some.inj ((if_pos ca).symm.trans z)
        rw [ca]
        exact ⟨obj, by rw [List.length_map]; exact small, vs, _, hvals, obj⟩
      · exact absurd ((if_neg ca).symm.trans z) (fun n => nomatch n)
    · by_cases ca : c = a
      · exact ca
      · exact absurd (if_neg ca) z
/-- the goal that the head leaves, from the law's body at the row's own call -/
theorem walk_top {l : PySem.W.OpenLaw} {n : Nat} {q : Program} {loose : List Str} {XP : (Str → Option Value) → Heap → Prop} {YP : World → Heap → Prop} {d : DefRec} {K : Params → PySem.W.Frag}
    (hn : l.most = some n) (hn2 : n ≤ sizeLine) (hdf : d.params.defaults = []) (hY : ∀ (w : World) (h : Heap), YP w h → (K w.params).In h)
    (F : ∀ (w : World) (mg : Str → Option Value) (fa : Addr) (h : Heap), (K w.params).In h → h.Ns mainGlobals mg → mg d.name = some (.ref fa) →
      ∀ (base : Heap) (s : Shared) (H : Hp) (a : Addr) (ns : List Int), (K w.params).In base → base.Ns mainGlobals mg → ns.length ≤ n → SqL (K w.params) H a (ns.map V.int) → Env0 l.prog w (K w.params) mg base callerA [] s H →
        codeAny (model l.prog w) callerA (.call (.ref fa) ⟨[.ref a], []⟩) (CR CX0 [] l.prog w H s (fun v _ => v = .bl true) (fun _ _ _ => False)) s) :
    PySem.W.WalkO q loose XP YP l.row.toRowW d [] (fun f vs => PySem.call f vs) := by
  refine Att.attach_call hn hdf fun w s₀ s₁ mg mb fa o pm cd doc a vs ns G Y _ _ _ hmg hobj hints hlen hg => ?_
  exact top_call (hY w _ Y) G.T.g G.T.b G.T.builtins G.T.nolimit hg hobj hints (Nat.le_trans hlen hn2) fun base H kb nb sq e0 => F w mg fa _ (hY w _ Y) G.T.g hmg base s₁ H a ns kb nb hlen sq e0
end L2
namespace T1
open PySem PySem.Spec PyProof.Rows L2 TK BstM DatI
theorem TyX.keep {K : PySem.W.Frag} {H H' : Hp} {x : V} {t : Value} (h : TyX K H x t) (s : Same H H') : TyX K H' x t := by
  cases h with
  | base h => cases h with
    | non => exact .base .non
    | bl x => exact .base (.bl x)
    | int i => exact .base (.int i)
    | str x => exact .base (.str x)
    | flt x => exact .base (.flt x)
    | lst e => exact .base (.lst (s _ _ e))
    | frz e => exact .base (.frz (s _ _ e))
    | tup e => exact .base (.tup (s _ _ e))
    | dK e => exact .base (.dK (s _ _ e))
    | dT e => exact .base (.dT (s _ _ e))
    | ins e cl ha hn htk hm => exact .base (.ins (s _ _ e) cl ha hn htk hm)
  | byt b => exact .byt b
  | set e => exact .set (s _ _ e)
  | kList e c => exact .kList e c
  | kTuple e c => exact .kTuple e c
  | kDict e c => exact .kDict e c
  | fTuple e => exact .fTuple (s _ _ e)
  | fDict e => exact .fDict (s _ _ e)
theorem KeyAns.keep {K : PySem.W.Frag} {H H' : Hp} {x : V} {b : Bool} (h : KeyAns K H x b) (s : Same H H') : KeyAns K H' x b := by
  cases h with
  | int i => exact .int i
  | bl c => exact .bl c
  | other h k => exact .other (TyX.keep h s) k
/-- what stands in a candidate: a pair of a key and a parent, or something else -/
inductive Elem (K : PySem.W.Frag) (H : Hp) : V → Option (Int × Option Int) → Prop where
  | good {b : Addr} {k : Int} {o : Option Int} (h : H b = some (.tup [.int k, oV o])) (hk : InR k) (ho : ∀ m, o = some m → InR m) : Elem K H (.ref b) (some (k, o))
  | notTup {x : V} {t : String} (h : TyX K H x (.type t)) (k : kitB t "tuple" = some false) : Elem K H x none
  | len {b : Addr} {xs : List V} (h : H b = some (.tup xs)) (n : xs.length ≠ 2) : Elem K H (.ref b) none
  | key {b : Addr} {u v : V} (h : H b = some (.tup [u, v])) (n : KeyAns K H u false) : Elem K H (.ref b) none
  | par {b : Addr} {k : Int} {v : V} (h : H b = some (.tup [.int k, v])) (hk : InR k) (hv : v ≠ .non) (n : KeyAns K H v false) : Elem K H (.ref b) none
theorem Elem.keep {K : PySem.W.Frag} {H H' : Hp} {x : V} {r : Option (Int × Option Int)} (h : Elem K H x r) (s : Same H H') : Elem K H' x r := by
  cases h with
  | good h hk ho => exact .good (s _ _ h) hk ho
  | notTup h k => exact .notTup (TyX.keep h s) k
  | len h n => exact .len (s _ _ h) n
  | key h n => exact .key (s _ _ h) (KeyAns.keep n s)
  | par h hk hv n => exact .par (s _ _ h) hk hv (KeyAns.keep n s)
inductive Cand (K : PySem.W.Frag) (H : Hp) : V → Option PL → Prop where
  | notTup {x : V} {t : String} (h : TyX K H x (.type t)) (k : kitB t "tuple" = some false) : Cand K H x none
  | bad {p : Addr} {xs : List V} {rs : List (Option (Int × Option Int))} (h : H p = some (.tup xs)) (hl : xs.length ≤ 40) (he : Paired (Elem K H) xs rs) (hn : none ∈ rs) : Cand K H (.ref p) none
  | good {p : Addr} {l : PL} (h : TreeAt H p l) (hp : Pairs l) : Cand K H (.ref p) (some l)
theorem Cand.keep {K : PySem.W.Frag} {H H' : Hp} {x : V} {r : Option PL} (h : Cand K H x r) (s : Same H H') : Cand K H' x r := by
  cases h with
  | notTup h k => exact .notTup (TyX.keep h s) k
  | bad h hl he hn => exact .bad (s _ _ h) hl (Paired.mapP he fun _ _ z => Elem.keep z s) hn
  | good h hp => exact .good (h.keep s) hp
def spPairG (K : PySem.W.Frag) : Sp := fun vs H Q _ => ∃ x r, vs = [x] ∧ Elem K H x r ∧ Q (.bl r.isSome) H
def formA : Option PL → Bool
  | none => false
  | some l => (ascN (l.map (·.1))).all id
def spFormG (K : PySem.W.Frag) : Sp := fun vs H Q _ => ∃ c r, vs = [c] ∧ Cand K H c r ∧ ∀ H', Same H H' → Q (.bl (formA r)) H'
theorem under_none (l : PL) : under l [.non] = genRow l 0 := by
  unfold under
  rw [genRow]
  unfold underP
  congr 1
  exact List.filter_congr fun x _ => inV_none x.2
theorem under_row (l : PL) (d : Nat) : under l ((genRow l d).map V.int) = genRow l (d + 1) := by
  unfold under
  rw [genRow]
  unfold underP
  congr 1
  exact List.filter_congr fun x _ => inV_ints x.2 _
def genRows (l : PL) (D : Nat) : List (List Int) := (List.range D).map (genRow l)
def spRowsG : Sp := fun vs H Q _ => ∃ (p : Addr) (l : PL), vs = [.ref p] ∧ TreeAt H p l ∧ (l.map (·.1)).Nodup ∧ l.length ≤ 40 ∧ ∀ H' d as D, Same H H' → H d = none → H' d = some (.lst (as.map V.ref)) → ListsAt H' as (genRows l D) → (∀ i, i < D → genRow l i ≠ []) → genRow l D = [] → Q (.ref d) H'
def spRbrG : Sp := fun vs H Q _ => ∃ (p : Addr) (l : PL), vs = [.ref p] ∧ TreeAt H p l ∧ (l.map (·.1)).Nodup ∧ l.length ≤ 40 ∧ ∀ H' d D, Same H H' → H d = none → H' d = some (.lst ((genOrder l D).map V.int)) → (∀ i, i < D → genRow l i ≠ []) → genRow l D = [] → Q (.ref d) H'
theorem ascN_iff : ∀ {ks : List Int}, (ascN ks).all id = true → ks.Pairwise (· < ·) := by
  intro ks h
  rw [List.all_eq_true] at h
  have step : ∀ i, i + 1 < ks.length → (ks[i]?).getD 0 < (ks[i + 1]?).getD 0 := fun i hi => by
    have := h (decide ((ks[i]?).getD 0 < (ks[i + 1]?).getD 0)) (by
      unfold ascN
      exact List.mem_map.mpr ⟨i, List.mem_range.mpr (by omega), rfl⟩)
    exact of_decide_eq_true this
  rw [List.pairwise_iff_getElem]
  have far : ∀ (d i : Nat) (h1 : i + d + 1 < ks.length), ks[i]'(by omega) < ks[i + d + 1] := by
    intro d
    induction d with
    | zero =>
      intro i h1
      have := step i h1
      rw [List.getElem?_eq_getElem (by omega), List.getElem?_eq_getElem h1] at this
      exact this
    | succ d ih =>
      intro i h1
      have h2 := ih i (by omega)
      have h3 := step (i + d + 1) (by omega)
      rw [List.getElem?_eq_getElem (by omega), List.getElem?_eq_getElem (by omega)] at h3
      exact Int.lt_trans h2 h3
  intro i j hi hj hij
  have := far (j - i - 1) i (by omega)
  have e : i + (j - i - 1) + 1 = j := by omega
  simp only [e] at this
  exact this
theorem oi_o (o : Option Int) : OI (oV o) := by
  cases o with
  | none => exact .non
  | some i => exact .int i
theorem oi_pars : ∀ (r : List Int), ∀ p ∈ parsR r, OI p.2
  | [], p, h => nomatch h
  | x :: r, p, h => by
    unfold parsR at h
    rcases List.mem_append.mp h with h | h
    · exact oi_pars r p h
    · rw [List.mem_singleton] at h
      rw [h]
      exact oi_o _
theorem oi_dict (l : PL) : ∀ p ∈ dictOf l, OI p.2 := fun p hp => by
  unfold dictOf at hp
  obtain ⟨x, _, rfl⟩ := List.mem_map.mp hp
  exact oi_o _
/-- the program's last question -/
theorem dict_iff {l : PL} (ha : (l.map (·.1)).Pairwise (· < ·)) {D : Nat} (h1 : ∀ i, i < D → genRow l i ≠ []) (h2 : genRow l D = []) :
    ((dictOf l).length == (parsR (genOrder l D).reverse).length && allIn (parsR (genOrder l D).reverse) (dictOf l)) = true ↔ IsT l := by
  have hn : (l.map (·.1)).Nodup := ha.imp fun z => Int.ne_of_lt z
  have hon := genOrder_nodup hn D
  rw [← tree_iff ha h1 h2, Bool.and_eq_true, beq_iff_eq]
  have el : (dictOf l).length = l.length := by unfold dictOf; rw [List.length_map]
  rw [el, parsR_len, List.length_reverse]
  refine ⟨fun ⟨g1, g2⟩ => ⟨g1.symm, fun x hx => ?_⟩, fun ⟨g1, g2⟩ => ⟨g1.symm, ?_⟩⟩
  · unfold allIn at g2
    rw [List.all_eq_true] at g2
    have := of_decide_eq_true (g2 (Sum.inl x.1, oV x.2) (List.mem_map.mpr ⟨x, hx, rfl⟩))
    have hin : x.1 ∈ (genOrder l D).reverse := by
      refine Classical.byContradiction fun hno => ?_
      have e : valV (parsR (genOrder l D).reverse) (Sum.inl x.1) = some (oV x.2) := this
      rw [parsR_new hno] at e
      cases e
    have e : valV (parsR (genOrder l D).reverse) (Sum.inl x.1) = some (oV x.2) := this
    rw [parsR_val (rev_nodup hon) hin, parentIn_eq] at e
    exact (oV_inj _ _).mp (Option.some.inj e)
  · unfold allIn
    rw [List.all_eq_true]
    intro p hp
    obtain ⟨x, hx, rfl⟩ := List.mem_map.mp hp
    refine decide_eq_true ?_
    show valV (parsR (genOrder l D).reverse) (Sum.inl x.1) = some (oV x.2)
    have hin : x.1 ∈ (genOrder l D).reverse := by
      refine List.mem_reverse.mpr (Classical.byContradiction fun hno => ?_)
      have := lenSub (x.1 :: genOrder l D) (l.map (·.1)) (List.nodup_cons.mpr ⟨hno, hon⟩) fun y hy => by
        rcases List.mem_cons.mp hy with e | hy
        · rw [e]; exact List.mem_map.mpr ⟨x, hx, rfl⟩
        · exact genOrder_key hy
      rw [List.length_cons, List.length_map, g1] at this
      omega
    rw [parsR_val (rev_nodup hon) hin, parentIn_eq, g2 x hx]
def Ans (r : Option PL) : Prop := ∃ l, r = some l ∧ IsT l
def spIsTreeG (K : PySem.W.Frag) : Sp := fun vs H Q _ => ∃ (c : V) (r : Option PL), vs = [c] ∧ Cand K H c r ∧ ∀ H' b, Same H H' → (b = true ↔ Ans r) → Q (.bl b) H'
theorem eqv_pairs : ∀ l m : List (Int × Option Int), PyData.eqvAll (l.map TreeD.pairD) (m.map TreeD.pairD) = decide (l = m)
  | [], [] => by simp [PyData.eqvAll]
  | [], y :: m => by simp [PyData.eqvAll]
  | x :: l, [] => by simp [PyData.eqvAll]
  | x :: l, y :: m => by
    rw [List.map_cons, List.map_cons, PyData.eqvAll, eqv_pair, eqv_pairs l m]
    rw [Bool.eq_iff_iff]
    simp
theorem eqv_tree (l m : List (Int × Option Int)) : PyData.eqv (TreeD.treeD l) (TreeD.treeD m) = decide (l = m) := by
  unfold TreeD.treeD
  rw [PyData.eqv, eqv_pairs]
theorem pairs_place (ns ms : List Int) : pairsOf ns ms = ms.map fun k => (k, (BstM.placeOf ns.reverse k).1) := by
  unfold pairsOf
  exact List.map_congr_left fun k _ => by rw [parentIn_eq]
theorem rounds_len (l : PL) (n : Nat) : (roundsL l n).length ≤ l.length := by
  have := lenSub _ _ (rounds_nodup l n) (rounds_key l n)
  rw [List.length_map] at this
  exact this
theorem fold_len {l : PL} (q : PL) (ord : List Int) (hq : ∀ x ∈ q, x ∈ l) (h1 : ord.Nodup) (h2 : ∀ k ∈ ord, k ∈ l.map (·.1)) : (q.foldl stepL ord).length ≤ l.length := by
  have := lenSub _ _ (fold_nodup q ord h1) (fold_key q ord hq h2)
  rw [List.length_map] at this
  exact this
/-- what a candidate holds, element by element -/
theorem cand_elems {K : PySem.W.Frag} {H : Hp} {p : Addr} {l : PL} (h : TreeAt H p l) (hp : Pairs l) : ∃ xs : List V, H p = some (.tup xs) ∧ xs.length = l.length ∧ Paired (Elem K H) xs (l.map some) := by
  obtain ⟨as, h1, h2⟩ := h
  refine ⟨as.map V.ref, h1, by rw [List.length_map]; exact Paired.length h2, ?_⟩
  have gen : ∀ {as : List Addr} {l : PL}, PairsAt H as l → (∀ x ∈ l, InR x.1 ∧ ∀ m, x.2 = some m → InR m) → Paired (Elem K H) (as.map V.ref) (l.map some) := by
    intro as l h
    induction h with
    | nil => intro _; exact .nil
    | @cons a x as l r t ih =>
      intro hx
      obtain ⟨g1, g2⟩ := hx x List.mem_cons_self
      exact .cons (Elem.good (k := x.1) (o := x.2) r g1 g2) (ih fun y hy => hx y (List.mem_cons_of_mem _ hy))
  exact gen h2 fun x hx => ⟨hp.key x hx, hp.par x hx⟩
/-- no key, whatever is drawn later -/
def NoKey (p : Addr) (K : PySem.W.Frag) (H : Hp) (v : V) : Prop := ∀ H', Kp p H H' → KeyAns K H' v false
theorem NoKey.keep {p : Addr} {K : PySem.W.Frag} {H H' : Hp} {v : V} (h : NoKey p K H v) (k : Kp p H H') : NoKey p K H' v := fun H2 k2 => h H2 (k.trans k2)
theorem noKey_obj {p a : Addr} {K : PySem.W.Frag} {H : Hp} {o : HO} (n : a ≠ p) (h : H a = some o) (ho : ∃ t, (∀ H', H' a = some o → TyX K H' (.ref a) (.type t)) ∧ kitB t "int" = some false) : NoKey p K H (.ref a) := fun H' k => by
  obtain ⟨t, h1, h2⟩ := ho
  exact .other (h1 H' (k.2 a o n h)) h2
theorem noKey_tup {p a : Addr} {K : PySem.W.Frag} {H : Hp} {xs : List V} (n : a ≠ p) (h : H a = some (.tup xs)) : NoKey p K H (.ref a) := noKey_obj n h ⟨"tuple", fun _ e => .base (.tup e), by decide +kernel⟩
theorem noKey_lst {p a : Addr} {K : PySem.W.Frag} {H : Hp} {xs : List V} (n : a ≠ p) (h : H a = some (.lst xs)) : NoKey p K H (.ref a) := noKey_obj n h ⟨"list", fun _ e => .base (.lst e), by decide +kernel⟩
theorem noKey_dK {p a : Addr} {K : PySem.W.Frag} {H : Hp} {xs : List (Key × V)} (n : a ≠ p) (h : H a = some (.dK xs)) : NoKey p K H (.ref a) := noKey_obj n h ⟨"dict", fun _ e => .base (.dK e), by decide +kernel⟩
theorem noKey_non {p : Addr} {K : PySem.W.Frag} {H : Hp} : NoKey p K H .non := fun _ _ => .other (.base .non) (by decide +kernel)
theorem noKey_str {p : Addr} {K : PySem.W.Frag} {H : Hp} {x : Str} : NoKey p K H (.str x) := fun _ _ => .other (.base (.str x)) (by decide +kernel)
theorem noKey_bl {p : Addr} {K : PySem.W.Frag} {H : Hp} {c : Bool} : NoKey p K H (.bl c) := fun _ _ => .bl c
theorem noKey_int {p : Addr} {K : PySem.W.Frag} {H : Hp} {i : Int} (h : ¬ InR i) : NoKey p K H (.int i) := fun H' _ => by
  have := KeyAns.int (K := K) (H := H') i
  rw [decide_eq_false h] at this
  exact this
theorem pool_ne {H : Hp} {p q : Addr} (h : PoolAt H p) (n : H q = none) : q ≠ p := by
  obtain ⟨x, y, e, _⟩ := h
  exact (ne_of_none e n).symm
def spStr (K : PySem.W.Frag) : Sp := fun vs H Q _ => ∃ (p : Addr), vs = [.ref p] ∧ PoolAt H p ∧ ∀ H' v, Kp p H H' → NoKey p K H' v → v ≠ .ref p → Q v H'
section
variable {K : PySem.W.Frag}
/-- something that stands in a candidate, whatever is drawn later -/
def PEl (p : Addr) (K : PySem.W.Frag) (H : Hp) (x : V) : Prop := ∀ H', Kp p H H' → ∃ r, Elem K H' x r
theorem PEl.keep {p : Addr} {H H' : Hp} {v : V} (h : PEl p K H v) (k : Kp p H H') : PEl p K H' v := fun H2 k2 => h H2 (k.trans k2)
theorem tup_ne {p b : Addr} {H : Hp} {xs : List V} (hp : PoolAt H p) (h : H b = some (.tup xs)) : b ≠ p := by
  obtain ⟨x, y, e, _⟩ := hp
  intro z
  rw [z, e] at h
  cases h
theorem pel_two {p b : Addr} {H : Hp} {u v : V} (hp : PoolAt H p) (h : H b = some (.tup [u, v])) (hu : (∃ k, u = .int k ∧ InR k) ∨ NoKey p K H u) (hv : (∃ o, v = oV o ∧ ∀ m, o = some m → InR m) ∨ NoKey p K H v) : PEl p K H (.ref b) := fun H' k => by
  have h' := k.2 b _ (tup_ne hp h) h
  rcases hu with ⟨kk, rfl, hk⟩ | hu
  · rcases hv with ⟨o, rfl, ho⟩ | hv
    · exact ⟨_, .good h' hk ho⟩
    · by_cases e : v = .non
      · subst e
        exact ⟨_, Elem.good (o := none) h' hk (fun m z => nomatch z)⟩
      · exact ⟨_, .par h' hk e (hv H' k)⟩
  · exact ⟨_, .key h' (hu H' k)⟩
theorem pel_len {p b : Addr} {H : Hp} {xs : List V} (hp : PoolAt H p) (h : H b = some (.tup xs)) (n : xs.length ≠ 2) : PEl p K H (.ref b) := fun H' k => ⟨_, .len (k.2 b _ (tup_ne hp h) h) n⟩
theorem pel_lst {p b : Addr} {H : Hp} {xs : List V} (n : b ≠ p) (h : H b = some (.lst xs)) : PEl p K H (.ref b) := fun H' k => ⟨_, .notTup (.base (.lst (k.2 b _ n h))) (by decide +kernel)⟩
theorem pel_non {p : Addr} {H : Hp} : PEl p K H .non := fun H' _ => ⟨_, .notTup (.base .non) (by decide +kernel)⟩
theorem cand_of {t : Addr} {H : Hp} {xs : List V} (h : H t = some (.tup xs)) (hl : xs.length ≤ 40) (he : ∀ x ∈ xs, ∃ r, Elem K H x r) : ∃ r, Cand K H (.ref t) r := by
  have gen : ∀ ys : List V, (∀ x ∈ ys, ∃ r, Elem K H x r) → ∃ rs, Paired (Elem K H) ys rs := by
    intro ys
    induction ys with
    | nil => intro _; exact ⟨[], .nil⟩
    | cons y ys ih =>
      intro hy
      obtain ⟨r, hr⟩ := hy y List.mem_cons_self
      obtain ⟨rs, hrs⟩ := ih fun x hx => hy x (List.mem_cons_of_mem _ hx)
      exact ⟨r :: rs, .cons hr hrs⟩
  obtain ⟨rs, hrs⟩ := gen xs he
  by_cases hn : none ∈ rs
  · exact ⟨_, .bad h hl hrs hn⟩
  · have all : ∀ {ys : List V} {rs : List (Option (Int × Option Int))}, Paired (Elem K H) ys rs → none ∉ rs → ∃ (as : List Addr) (l : PL), ys = as.map V.ref ∧ PairsAt H as l ∧ (∀ x ∈ l, InR x.1 ∧ ∀ m, x.2 = some m → InR m) ∧ l.length = ys.length := by
      intro ys rs hp
      induction hp with
      | nil => intro _; exact ⟨[], [], rfl, .nil, (fun x hx => nomatch hx), rfl⟩
      | @cons y r ys rs h1 h2 ih =>
        intro hn
        obtain ⟨as, l, e1, e2, e3, e4⟩ := ih fun z => hn (List.mem_cons_of_mem _ z)
        cases r with
        | none => exact absurd List.mem_cons_self hn
        | some r =>
          cases h1 with
          | @good b k o hb hk ho =>
            refine ⟨b :: as, (k, o) :: l, by rw [e1]; rfl, .cons hb e2, fun x hx => ?_, by rw [List.length_cons, List.length_cons, e4]⟩
            rcases List.mem_cons.mp hx with rfl | hx
            · exact ⟨hk, ho⟩
            · exact e3 x hx
    obtain ⟨as, l, rfl, e2, e3, e4⟩ := all hrs hn
    exact ⟨some l, .good ⟨as, h, e2⟩ ⟨fun x hx => (e3 x hx).1, fun x hx => (e3 x hx).2, by rw [e4]; exact hl⟩⟩
def rLenS (K : PySem.W.Frag) : List V → Hp → VK → Prop := fun xs H Q => ∃ p ys, xs = [V.ref p] ∧ (SqL K H p ys ∨ SqT K H p ys) ∧ Q (.int ys.length) H
def PCand (p : Addr) (K : PySem.W.Frag) (H : Hp) (x : V) : Prop := ∀ H', Kp p H H' → ∃ r, Cand K H' x r
theorem PCand.keep {p : Addr} {H H' : Hp} {v : V} (h : PCand p K H v) (k : Kp p H H') : PCand p K H' v := fun H2 k2 => h H2 (k.trans k2)
theorem pcand_tup {p t : Addr} {H : Hp} {xs : List V} (hp : PoolAt H p) (h : H t = some (.tup xs)) (hl : xs.length ≤ 40) (he : ∀ x ∈ xs, PEl p K H x) : PCand p K H (.ref t) := fun H' k => cand_of (k.2 t _ (tup_ne hp h) h) hl fun x hx => he x hx H' k
theorem pcand_lst {p t : Addr} {H : Hp} {xs : List V} (n : t ≠ p) (h : H t = some (.lst xs)) : PCand p K H (.ref t) := fun H' k => ⟨_, .notTup (.base (.lst (k.2 t _ n h))) (by decide +kernel)⟩
def spVar (K : PySem.W.Frag) : Sp := fun vs H Q _ => ∃ (p t : Addr) (l : PL), vs = [.ref p, .ref t] ∧ PoolAt H p ∧ TreeAt H t l ∧ Pairs l ∧ 0 < l.length ∧ l.length ≤ 9 ∧ ∀ H' v, Kp p H H' → (∃ r, Cand K H' v r) → Q v H'
end
theorem TreeAt.keepP {p q : Addr} {H H' : Hp} {l : List (Int × Option Int)} (h : TreeAt H q l) (hp : PoolAt H p) (k : Kp p H H') : TreeAt H' q l := by
  obtain ⟨as, h1, h2⟩ := h
  refine ⟨as, k.2 _ _ (tup_ne hp h1) h1, Paired.mapP h2 fun b y z => k.2 _ _ (tup_ne hp z) z⟩
theorem isT_nil : IsT [] := ⟨[], [], List.nodup_nil, List.Perm.refl _, List.Pairwise.nil, rfl⟩
theorem keys_of_isT {ms : List Int} {g : Int → Option Int} {l : PL} (e : l = ms.map fun k => (k, g k)) : ms = l.map (·.1) := by
  rw [e, List.map_map]
  exact (List.map_id ms).symm
theorem not_one {o : Option Int} (h : o ≠ none) : ¬ IsT [(1, o)] := by
  rintro ⟨ns, ms, h1, h2, h3, h4⟩
  have e := keys_of_isT h4
  obtain rfl : ms = [1] := e
  have e2 : ns = [1] := List.perm_singleton.mp h2.symm
  subst e2
  have := List.cons.inj h4
  exact h (congrArg Prod.snd this.1)
theorem not_two {o u : Option Int} (h : ¬ (o = none ∧ u = some 1) ∧ ¬ (o = some 2 ∧ u = none)) : ¬ IsT [(1, o), (2, u)] := by
  rintro ⟨ns, ms, h1, h2, h3, h4⟩
  have e := keys_of_isT h4
  obtain rfl : ms = [1, 2] := e
  have hl : ns.length = 2 := by rw [← h2.length_eq]; rfl
  match ns, hl with
  | [a, b], _ =>
    have ha : a = 1 ∨ a = 2 := by have := h2.mem_iff.mpr (List.mem_cons_self (a := a) (l := [b])); simpa using this
    have hb : b = 1 ∨ b = 2 := by have := h2.mem_iff.mpr (show b ∈ [a, b] by simp); simpa using this
    have hne : a ≠ b := by
      intro z
      subst z
      simp at h1
    have h5 := List.cons.inj h4
    have h6 := List.cons.inj h5.2
    have e1 : o = (placeOf [a, b].reverse 1).1 := congrArg Prod.snd h5.1
    have e2 : u = (placeOf [a, b].reverse 2).1 := congrArg Prod.snd h6.1
    rcases ha with rfl | rfl
    · rcases hb with rfl | rfl
      · exact hne rfl
      · exact h.1 ⟨e1.trans (by decide), e2.trans (by decide)⟩
    · rcases hb with rfl | rfl
      · exact h.2 ⟨e1.trans (by decide), e2.trans (by decide)⟩
      · exact hne rfl
section
variable {K : PySem.W.Frag}
/-- no tree -/
def Bad (K : PySem.W.Frag) (H : Hp) (v : V) : Prop := ∃ r, Cand K H v r ∧ ¬ Ans r
theorem noAns : ¬ Ans none := fun ⟨_, z, _⟩ => nomatch z
theorem Bad.keep {H H' : Hp} {v : V} (h : Bad K H v) (s : Same H H') : Bad K H' v := by
  obtain ⟨r, h1, h2⟩ := h
  exact ⟨r, h1.keep s, h2⟩
theorem pairs_lit {l : PL} (h : (l.all fun x => decide (InR x.1) && (match x.2 with | none => true | some m => decide (InR m))) = true) (hl : l.length ≤ 40) : Pairs l := by
  rw [List.all_eq_true] at h
  refine ⟨fun x hx => ?_, fun x hx m e => ?_, hl⟩
  · have := h x hx
    rw [Bool.and_eq_true] at this
    exact of_decide_eq_true this.1
  · have := h x hx
    rw [Bool.and_eq_true, e] at this
    exact of_decide_eq_true this.2
theorem bad_good {H : Hp} {t : Addr} {l : PL} (h : TreeAt H t l) (hp : Pairs l) (hn : ¬ IsT l) : Bad K H (.ref t) := ⟨_, .good h hp, fun ⟨l', e, z⟩ => hn (by rw [Option.some.inj e]; exact z)⟩
theorem bad_two {H : Hp} {t b c : Addr} {i j : Int} {o u : Option Int} (h : H t = some (.tup [.ref b, .ref c])) (hb : H b = some (.tup [.int i, oV o])) (hc : H c = some (.tup [.int j, oV u])) (hp : Pairs [(i, o), (j, u)]) (hn : ¬ IsT [(i, o), (j, u)]) : Bad K H (.ref t) :=
  bad_good ⟨[b, c], h, .cons hb (.cons hc .nil)⟩ hp hn
theorem bad_one {H : Hp} {t b : Addr} {i : Int} {o : Option Int} (h : H t = some (.tup [.ref b])) (hb : H b = some (.tup [.int i, oV o])) (hp : Pairs [(i, o)]) (hn : ¬ IsT [(i, o)]) : Bad K H (.ref t) :=
  bad_good ⟨[b], h, .cons hb .nil⟩ hp hn
end
end T1
/-! error classes over any built-in error: what the class's row of ancestors must say -/
namespace PySem
namespace XB
open Builtin Builtin.ObjectAttr
/-- the ancestors bm behind a class whose objects newId makes -/
structure EBase (bm : List Value) (newId : String) : Prop where
  F : ∃ B initId bmB, ExcBaseFacts B newId initId bmB ∧ bm.contains (.type B) = true
  hA : bm.contains (.type "AttributeError") = false
  hN : bm.contains (.type "NameError") = false
  pass : ∀ self, refuseLoop self "__setattr__" bm = pure ()
  ob : bm.contains (.type "object") = true
theorem EBase.ref {bm : List Value} {newId : String} (e : EBase bm newId) (c : Addr) : EBase (.ref c :: bm) newId := by
  obtain ⟨⟨B, i, b, F, h⟩, a, n, p, o⟩ := e
  refine ⟨⟨B, i, b, F, ?_⟩, ?_, ?_, fun self => ?_, ?_⟩
  · rw [List.contains_cons, h, Bool.or_true]
  · rw [List.contains_cons, a]; rfl
  · rw [List.contains_cons, n]; rfl
  · rw [refuseLoop_ref]; exact p self
  · rw [List.contains_cons, o, Bool.or_true]
theorem eb_value : EBase [.type "ValueError", .type "Exception", .type "BaseException", .type "object"] "ValueError.__new__" := ⟨⟨_, _, _, F.excBase_ValueError, by decide +kernel⟩, by decide +kernel, by decide +kernel, fun self => by kernel_rfl, by decide +kernel⟩
theorem eb_key : EBase [.type "KeyError", .type "LookupError", .type "Exception", .type "BaseException", .type "object"] "LookupError.__new__" := ⟨⟨_, _, _, F.excBase_LookupError, by decide +kernel⟩, by decide +kernel, by decide +kernel, fun self => by kernel_rfl, by decide +kernel⟩
theorem eb_lookup : EBase [.type "LookupError", .type "Exception", .type "BaseException", .type "object"] "LookupError.__new__" := ⟨⟨_, _, _, F.excBase_LookupError, by decide +kernel⟩, by decide +kernel, by decide +kernel, fun self => by kernel_rfl, by decide +kernel⟩
theorem eb_overflow : EBase [.type "OverflowError", .type "ArithmeticError", .type "Exception", .type "BaseException", .type "object"] "OverflowError.__new__" := ⟨⟨_, _, _, F.excBase_OverflowError, by decide +kernel⟩, by decide +kernel, by decide +kernel, fun self => by kernel_rfl, by decide +kernel⟩
theorem eb_arith : EBase [.type "ArithmeticError", .type "Exception", .type "BaseException", .type "object"] "ArithmeticError.__new__" := ⟨⟨_, _, _, F.excBase_ArithmeticError, by decide +kernel⟩, by decide +kernel, by decide +kernel, fun self => by kernel_rfl, by decide +kernel⟩
section
variable {prog : Program} {w : World} {A : Around} {E : Value → Shared → Prop} {R : Result → Shared → Prop} {h : Heap} {g : Array GenState} {d : Drawn} {t : Nat} {os : OsState}
variable {nm q : Str} {C N : Addr} {bs bm : List Value} {hdct : Bool} {sn : List Str} {sub : List Value} {ab : Bool} {col : Option Bool} {dd : Option Addr} {k0 k1 k2 k3 k5 : Option Value} {newId : String}
theorem newB (T : EBase bm newId) {us : List Value} (hC : h.get? C = some (excClassObj nm q C N bs bm hdct sn sub ab col dd k0 k1 k2 k3 k5 newId)) (hz : us.length ≤ sizeLine)
    (hR : R (.ok (.ret (.ref (h.objs.size + 1)))) ⟨(h.push (W.kdv_tup us)).push (HandSPX.excO C h.objs.size), g, d, t, os⟩) :
    codeAny (model prog w) A (.builtin newId ⟨.ref C :: us, []⟩) R ⟨h, g, d, t, os⟩ := by
  obtain ⟨⟨B, i, b, F, cB⟩, cA, cN, _, _⟩ := T
  have e0 := F.ends
  have e1 : (Value.ref C :: bm).contains (.type B) = true := (List.contains_cons).trans (by rw [cB, Bool.or_true])
  have e2 : (Value.ref C :: bm).contains (.type "AttributeError") = false := (List.contains_cons).trans (by rw [cA]; rfl)
  have e3 : (Value.ref C :: bm).contains (.type "NameError") = false := (List.contains_cons).trans (by rw [cN]; rfl)
  refine codeAny_builtinAt F.entry ?_
  unfold Builtin.«BaseException.__new__»
  refine wpAt_bind (show wpAt _ _ _ (stack >>= _) _ _ _ from wpAt_bind (wpAt_stack fun p below => wpAt_of_wpAny ?_))
  wp_walk
  refine wpAt_of_wpAny ?_
  rw [F.owner]
  repeat first
    | with_reducible refine wpAny_madeHere_exc F.canon hC ?_
    | with_reducible refine wpAny_loadPart_at hC ?_
    | (with_reducible refine wpAny_isSubtype_exc hC ?_; first | rw [e1] | rw [e2] | rw [e3])
    | wp_step
  rw [show (Heap.push h { cls := .type "tuple", data := .seq us.toArray }).objs.size = h.objs.size + 1 from Heap.size_push ..]
  exact hR
theorem chkB (T : EBase bm newId) {M : Model} {us : List Value} {Q : Unit → Shared → Prop} (hC : h.get? C = some (excClassObj nm q C N bs bm hdct sn sub ab col dd k0 k1 k2 k3 k5 newId)) (hQ : Q () ⟨h, g, d, t, os⟩) :
    wpAny M A (checkBuiltinCall newId ⟨.ref C :: us, []⟩) Q E ⟨h, g, d, t, os⟩ := by
  obtain ⟨⟨B, i, b, F, cB⟩, _⟩ := T
  have e1 : (Value.ref C :: bm).contains (.type B) = true := (List.contains_cons).trans (by rw [cB, Bool.or_true])
  have e0 := F.noStar
  simp only [checkBuiltinCall, F.newKind, F.newSplit, F.newRow]
  repeat first
    | refine wpAny_loadPart_at hC ?_
    | (refine wpAny_isSubtype_exc hC ?_; rw [e1])
    | refine wpAny_staticBase_exc hC ?_
    | refine wpAny_madeBy_exc hC ?_
    | simp only [bne_self_eq_false, Bool.false_eq_true, if_false]
    | wp_step
  exact hQ
theorem quietB (T : EBase bm newId) : newId.startsWith "lifetime." = false := by
  obtain ⟨⟨B, i, b, F, cB⟩, _⟩ := T
  exact F.quiet
end
end XB
end PySem
/-! making an object of such a class, and the first field of it -/
namespace PySem
namespace XB
open Builtin Builtin.ObjectAttr HandSPX
section
variable {prog : Program} {w : World} {A : Around} {E : Value → Shared → Prop} {R : Result → Shared → Prop} {h : Heap} {g : Array GenState} {d : Drawn} {t : Nat} {os : OsState}
variable {nm q : Str} {C N : Addr} {bs bm : List Value} {hdct : Bool} {sn : List Str} {sub : List Value} {ab : Bool} {col : Option Bool} {dd : Option Addr} {k0 k1 k2 k3 k5 : Option Value} {newId : String}
theorem tcB (T : EBase bm newId) {us : List Value} {fI : Addr} {Q : Fin → Shared → Prop} (hC : h.get? C = some (excClassObj nm q C N bs bm hdct sn sub ab col dd k0 k1 k2 k3 k5 newId))
    (hi : W.Looks (model prog w) h (typeLookup (.ref C) "__init__") (some (.ref fI))) (hb : ∀ o, W.Looks (model prog w) h (bindSpecial (.ref fI) o) (.ref fI, [o])) (hz : us.length ≤ sizeLine)
    (hR : codeAny (model prog w) A (.call (.ref fI) ⟨.ref (h.objs.size + 1) :: us, []⟩) (fun r s => match r with | .ok (.ret v) => v = .none ∧ Q (.done (.ret (.ref (h.objs.size + 1)))) s | .ok _ => False | .error x => E x s)
      ⟨(h.push (W.kdv_tup us)).push (excO C h.objs.size), g, d, t, os⟩) : wpAny (model prog w) A (Builtin.«type.__call__» ⟨.ref C :: us, []⟩) Q E ⟨h, g, d, t, os⟩ := by
  repeat first
    | with_reducible refine wpAny_loadPart_at hC ?_
    | with_reducible refine wpAny_madeBy_exc hC ?_
    | wp_step
  refine codeAny_call_builtin_code (Code.quiet_builtin _ (quietB T)) (chkB T hC (newB T hC hz ?_))
  have up : ∀ b o, h.get? b = some o → ((h.push (W.kdv_tup us)).push (excO C h.objs.size)).get? b = some o := fun b o z => Heap.get?_push_of_some _ (Heap.get?_push_of_some _ z)
  have hC2 := up _ _ hC
  have hO : ((h.push (W.kdv_tup us)).push (excO C h.objs.size)).get? (h.objs.size + 1) = some (excO C h.objs.size) := by heap_get
  have own : (Value.ref C :: bm).contains (.ref C) = true := (List.contains_cons).trans (by simp)
  have hi2 := hi.keeps up
  have hb2 := (hb (.ref (h.objs.size + 1))).keeps up
  show wpAny _ _ _ _ _ _
  unfold isInstance
  repeat first
    | with_reducible refine wpAny_loadPart_at hO ?_
    | (with_reducible refine wpAny_isSubtype_exc hC2 ?_; rw [own])
    | wp_step
  show wpAny _ _ (typeLookup (.ref C) _) _ _ _
  refine hi2.at (wpAny_holding (wpAny_bind (hb2.at (wpAny_bind (wpAny_call (codeAny_mono hR fun r s z => ?_))))))
  cases r with
  | error x => exact z
  | ok fl =>
    cases fl with
    | ret v =>
      obtain ⟨rfl, z⟩ := z
      first
        | exact wpAny_pure (wpAny_pure z)
        | (wp_walk; exact z)
    | next => exact z.elim
    | brk => exact z.elim
    | cont => exact z.elim
theorem callB (T : EBase bm newId) {us : List Value} {fI : Addr} (hC : h.get? C = some (excClassObj nm q C N bs bm hdct sn sub ab col dd k0 k1 k2 k3 k5 newId))
    (hi : W.Looks (model prog w) h (typeLookup (.ref C) "__init__") (some (.ref fI))) (hb : ∀ o, W.Looks (model prog w) h (bindSpecial (.ref fI) o) (.ref fI, [o])) (hz : us.length ≤ sizeLine)
    (hR : codeAny (model prog w) (A.under (.builtin "type.__call__" ⟨.ref C :: us, []⟩)) (.call (.ref fI) ⟨.ref (h.objs.size + 1) :: us, []⟩) (W.InitBack (h.objs.size + 1) R) ⟨(h.push (W.kdv_tup us)).push (excO C h.objs.size), g, d, t, os⟩) :
    codeAny (model prog w) A (.call (.ref C) ⟨us, []⟩) R ⟨h, g, d, t, os⟩ := by
  have z1 := tc_lookup
  have z2 := tc_bind (.ref C)
  have z3 : (⟨h, g, d, t, os⟩ : Shared).TypeIs (.ref C) "type" := ⟨_, hC, rfl⟩
  refine codeAny_of_tree (show wpAny _ _ (callAny (.ref C) _) _ _ _ from ?_)
  repeat (any_goals first
    | assumption
    | with_reducible refine wpAny_loadPart_at hC ?_
    | wp_step)
  refine ⟨rfl, codeAny_call_builtin_at (Code.quiet_builtin _ (by decide +kernel)) entry_typeCall (wpAny_check_type_call_sub hC (tcB T hC hi hb hz (codeAny_mono hR fun r s z => ?_)))⟩
  rcases r with x | (v | _ | _ | _) <;> exact z
theorem setB {hp : Heap} {K : W.Frag} {f : Str} {tk : Tok} {v : Value} {x : Addr} {fv : Array Value} {cd : ClassData} (X : K.In hp) (hx : hp.get? x = some { cls := .ref C, data := .fields fv }) (hcd : W.clsIn K C = some cd)
    (hp1 : ∀ o, refuseLoop o "__setattr__" cd.mro = pure ()) (hp2 : cd.mro.contains (.type "object") = true) (hh : cd.hasDict = true) (ha : W.findIn K (.ref C) f = some none)
    (hR : ∀ h2 t2 dx, (∀ b o, b ≠ x → hp.get? b = some o → h2.get? b = some o) → hp.objs.size ≤ dx → dx ≠ x → h2.get? x = some { cls := .ref C, dict := some dx, data := .fields fv } → h2.Ns1 dx (fun y => if y = f then some v else none) →
      R (.ok (.ret .none)) ⟨h2, g, d, t2, os⟩) : codeAny (model prog w) A (.call (.builtin "object.__setattr__") ⟨[.ref x, .str f tk, v], []⟩) R ⟨hp, g, d, t, os⟩ := by
  have J : W.InstAt hp x { cls := .ref C, data := .fields fv } C none := ⟨hx, rfl, rfl, trivial⟩
  have S := F.store_object
  have hxn : x ≠ hp.objs.size := Nat.ne_of_lt (Heap.lt_size hx)
  have hne : cd.mro.isEmpty = false := by
    cases z : cd.mro with
    | nil => rw [z] at hp2; cases hp2
    | cons _ _ => rfl
  have isO : W.Looks (model prog w) hp (isInstance (.ref x) (.type "object")) true := J.type.andThen (W.looks_mroIn X (by unfold W.mroIn; rw [hcd, Option.bind_some, if_neg (by rw [hne]; decide), hp2]))
  have mroL : W.Looks (model prog w) hp (mroOf (.ref C)) cd.mro := (W.looks_clsIn X hcd).andThen .now
  have noT : W.Looks (model prog w) hp (storeTaker? none) none := .now
  have clsL : W.Looks (model prog w) hp (classData C) cd := W.looks_clsIn X hcd
  refine codeAny_call_builtin S.slot.plain S.entry (@W.check_slot (model prog w) _ _ ⟨hp, g, d, t, os⟩ "object.__setattr__" "object" "__setattr__" (.ref x) [.str f tk, v] [] _ S.kind S.split isO (S.args (.ref x) (.str f tk) v) ?_)
  rw [W.osa_eq, refuse_eq]
  refine wpAny_bind (wpAny_bind (J.type.at (wpAny_bind (mroL.at ?_))))
  rw [hp1]
  refine wpAny_pure (wpAny_bind (J.type.at (wpAny_bind ((W.looks_findIn X ha).at (wpAny_bind (noT.at ?_))))))
  show wpAny _ _ (storeInOwnDict (.ref x) (.ref C) (.str f tk) f v false) _ _ _
  cases cd
  dsimp only at hh
  subst hh
  unfold storeInOwnDict ownDictForStores
  repeat first
    | with_reducible refine store_in_new ?_ ?_
    | with_reducible refine wpAny_loadPart_at hx ?_
    | with_reducible refine clsL.at ?_
    | wp_step
  · exact ⟨_, #[], _, (Heap.get?_update_ne _ _ _ _ hxn.symm).trans (Heap.get?_push_at rfl rfl), rfl, fun y hy => absurd hy (by simp), fun _ => rfl⟩
  · intro h2 t2 hN hS
    have hx2 : (hp.push { cls := .type "dict", data := .dict #[] }).get? x = some { cls := .ref C, data := .fields fv } := Heap.get?_push_of_some _ hx
    exact hR h2 t2 hp.objs.size (fun b o hb ho => (hS.2 b (Nat.ne_of_lt (Heap.lt_size ho))).trans ((Heap.get?_update_ne _ _ _ _ hb).trans (Heap.get?_push_of_some _ ho))) (Nat.le_refl _) hxn.symm ((hS.2 x hxn).trans (Heap.get?_update_self _ hx2 rfl)) hN
end
end XB
end PySem
namespace L2
open PySem PySem.Spec PyProof.Rows
/-- what the written part says of an error class, whatever built-in error it comes from -/
structure OexB (K : PySem.W.Frag) (C : Addr) : Prop where
  cls : ∃ nm q N bs bm sn sub ab col dd k0 k1 k2 k3 k5 newId, K.lookup C = some (excClassObj nm q C N bs bm true sn sub ab col dd k0 k1 k2 k3 k5 newId) ∧ PySem.XB.EBase bm newId
  sa : PySem.W.findIn K (.ref C) "__setattr__" = some (some (.builtin "object.__setattr__"))
  ex : PySem.W.subIn K (.ref C) (.type "BaseException") = some true
  ty : PySem.W.typeIn K (.ref C) = some (.type "type")
  kp : PySem.W.keepIn K (.ref C) = true
section
variable {X : Cx} {pins : List (Addr × Obj)} {σ : St} {H : Hp} {s : Shared} {a C : Addr} {f : Str} {y : V} {u : Value} {Q : Unit → Shared → Prop} {E : Value → Shared → Prop} {A : Around}
theorem ostB (T : OexB X.K C) (I : Inv X pins σ H s) (e : H a = some (exo a C none)) (hno : PySem.W.findIn X.K (.ref C) f = some none) (ry : RelV y u)
    (q : ∀ dx s', H dx = none → dx ≠ a → Inv X pins σ (upd (upd H dx (exd dx [(f, y)])) a (exo a C (some dx))) s' → Q () s') : wpAny (model X.prog X.w) A (setAttr (.ref a) f u) Q E s := by
  obtain ⟨nm, qn, N, bs, bm, sn, sub, ab, col, dd, k0, k1, k2, k3, k5, newId, hC, hB⟩ := T.cls
  have hB2 := hB.ref C
  have hcl : PySem.W.clsIn X.K C = some { name := nm, bases := bs, mro := .ref C :: bm, ns := N, qualname := qn, hasDict := true, slotNames := sn, subclasses := sub, abstract := ab, collection := col, hasDel := false } := by unfold PySem.W.clsIn; rw [hC] <;> rfl
  obtain ⟨t1, ho⟩ := exo_at I.hok e
  obtain ⟨hp, g, d, t, os⟩ := s
  refine PySem.W.set_plain I.kIn (ox := { cls := .ref C, dict := none, data := .fields #[.ref t1, .none, .none, .none, .bool false, .none] }) (od := none) ⟨ho, rfl, rfl, trivial⟩ T.sa (PySem.XB.setB I.kIn ho hcl hB2.pass hB2.ob rfl hno fun h' tk' dx up dn dne hx hn => ?_)
  have hnd : H dx = none := I.hok.fresh dn
  have old : ∀ {b : Addr} {o : Obj}, hp.get? b = some o → b ≠ dx := fun {b o} z => Nat.ne_of_lt (Nat.lt_of_lt_of_le (Heap.lt_size z) dn)
  have na : ∀ {b : Addr}, H b = none → b ≠ a := fun {b} n z => by rw [z, e] at n; cases n
  have Un1 : Un X.fs [] H (upd (upd H dx (exd dx [(f, y)])) a (exo a C (some dx))) hp h' := {
    keep := fun b o z n _ _ => up b o (na n) z
    slot := fun b o z n _ _ => ⟨o.slots, up b o (na n) z⟩
    free := fun b o z n _ => by rw [upd_ne (na n), upd_ne (old z)]; exact n
    there := fun b o z _ => by
      by_cases hb : b = a
      · exact ⟨_, by rw [hb]; exact hx⟩
      · exact ⟨o, up b o hb z⟩
    tups := fun b xs z => (upd_ne (at_ne e z exo_tup)).trans ((upd_ne (ne_of_none z hnd)).trans z)
    frzs := fun b o v z => (upd_ne (at_ne e z exo_frz)).trans ((upd_ne (ne_of_none z hnd)).trans z)
    tbls := fun b ps z => ⟨#[], by rw [upd_ne (at_ne e z exo_tbl), upd_ne (ne_of_none z hnd), z]; simp⟩ }
  refine q dx _ hnd dne (I.un (t' := tk') Un1 fun b o z => ?_)
  by_cases hb : b = a
  · subst hb
    rw [upd_same] at z
    cases z
    exact exo_ok hx
  · rw [upd_ne hb] at z
    by_cases hd : b = dx
    · subst hd
      rw [upd_same] at z
      cases z
      exact exd_ok hn (relO_put (fs := []) ry fun g => True.intro)
    · rw [upd_ne hd] at z
      refine (I.hok b o z).stay (fun c v hc w => up c v ?_ w) (fun c hc => (upd_ne (at_ne e hc exo_own)).trans ((upd_ne (ne_of_none hc hnd)).trans hc)) (fun c xs hc => (upd_ne (at_ne e hc exo_tup)).trans ((upd_ne (ne_of_none hc hnd)).trans hc))
      rcases hc with hc | hc
      · rw [hc]; exact hb
      · exact at_ne e hc exo_own
end
/-- self.f = e, the error's first field -/
def tOstB (K : PySem.W.Frag) (f : Str) (to te : TE) : TS := fun D σ H => te σ H fun y H1 => to σ H1 fun x H2 => ∃ a C : Addr, x = .ref a ∧ OexB K C ∧ PySem.W.findIn K (.ref C) f = some none ∧
  H2 a = some (exo a C none) ∧ ∀ dx, H2 dx = none → dx ≠ a → D.nx σ (upd (upd H2 dx (exd dx [(f, y)])) a (exo a C (some dx)))
section
variable {X : Cx} {o e : Expr} {es : List Expr} {to te : TE} {ta : TA} {f : Str} {p p' p1 p2 pos : Pos}
theorem ps_ostB (ho : PE X o to) (he : PE X e te) (hs : swapsWith e (some (.Attribute o f p')) pos.line X.env = pure false := by rfl) : PS X (.Assign [.Attribute o f p'] e pos) (tOstB X.K f to te) := by
  refine ⟨fun pins s σ H D I h => plainObj_wpAny_Assign_Attribute (thn (he.run pins s σ H _ I h) fun v s1 ⟨y, H1, I1, r1, q1⟩ => thn (ho.run pins s1 σ H1 _ I1 q1) fun u s2 hh => ?_) hs⟩
  obtain ⟨x, H2, I2, r2, a, C, rfl, T, hno, ea, q⟩ := hh
  obtain rfl : u = Value.ref a := r2
  exact ostB T I2 ea hno r1 fun dx s' n ne J => ⟨σ, _, J, q dx n ne⟩
theorem pmk_oexB {CX : CXT} {x : Str} {C fI : Addr} {k : Nat} {fd : FuncData} {ps : List Str} {sp : Sp} {ds : List Value} {dvs : List V} (T : OexB X.K C) (iC : PySem.W.findIn X.K (.ref C) "__init__" = some (some (.ref fI))) (tI : PySem.W.typeIn X.K (.ref fI) = some (.type "function"))
    (F1 : FnOk X.prog X.w X.K X.mg X.base CX k fI fd ps sp) (hr : Room (k + 1) X.A) (hb : Binds X.K fd ps ds) (hd : Vals dvs ds) (hx : Passes CX X (fun _ _ _ => False)) (hg : Gl X x) (hm : X.mg x = some (.ref C)) (ha : PA X (e :: es) ta)
    (hdb : (x == ("__debug__" : Str)) = false := by decide) (he : starEach (e :: es) X.env = (false, eval e X.env) :: starEach es X.env := by rfl) (hpl : (backTo pos (starEach es X.env)).any (·.1) = false := by rfl) :
    PMk X (.Call (.Name x p) (e :: es) [] pos) (tMkO C sp dvs ta) := by
  intro pins s σ H Q I h
  obtain ⟨nm, qn, N, bs, bm, sn, sub, ab, col, dd, k0, k1, k2, k3, k5, newId, hC, hB⟩ := T.cls
  refine wpAny_Call_Name_kw (ld_glob I hg hm (PySem.W.callWith_K (h₀ := X.base) I.ok.mod.kin T.kp (thn (ha.run pos pins _ σ H _ (I.tok _) h) fun us s1 hh => ?_) he hpl) hdb)
  obtain ⟨vs, H1, I1, r1, hz, q1⟩ := hh
  refine ⟨I1.kIn, (show wpAny _ _ (call (.ref C) us) _ _ _ from ?_)⟩
  obtain ⟨hp, g, dr, tk, os⟩ := s1
  have hsz : hp.objs.size ≤ hp.objs.size + 1 := Nat.le_succ _
  have hq := q1 (hp.objs.size + 1) (I1.hok.fresh hsz)
  have up : ∀ b o, hp.get? b = some o → ((hp.push (PySem.W.kdv_tup us)).push (PySem.HandSPX.excO C hp.objs.size)).get? b = some o := fun b o z => Heap.get?_push_of_some _ (Heap.get?_push_of_some _ z)
  have hO : ((hp.push (PySem.W.kdv_tup us)).push (PySem.HandSPX.excO C hp.objs.size)).get? (hp.objs.size + 1) = some (PySem.HandSPX.excO C hp.objs.size) := by heap_get
  have I2 := I1.laid (t' := tk) (a := hp.objs.size + 1) (o := exo (hp.objs.size + 1) C none) (h' := (hp.push (PySem.W.kdv_tup us)).push (PySem.HandSPX.excO C hp.objs.size)) up hsz (exo_ok hO)
  have r2 : Vals (V.ref (hp.objs.size + 1) :: (vs ++ dvs)) (Value.ref (hp.objs.size + 1) :: (us ++ ds)) := .cons rfl (r1.append hd)
  have hl : (Value.ref (hp.objs.size + 1) :: us ++ ds).length = ps.length := (r2.length.symm.trans (F1.len _ _ _ _ hq))
  have hus : us.length ≤ sizeLine := by rw [← Paired.length r1, sizeLine_eq]; omega
  refine wpAny_call (PySem.XB.callB hB (I1.kIn _ _ hC) (PySem.W.looks_findIn I1.kIn iC) (fun o => PySem.W.bind_fn I1.kIn o tI) hus (codeAny_mono (F1.run _ X.stack _ _ ⟨Value.ref (hp.objs.size + 1) :: us, []⟩ (Value.ref (hp.objs.size + 1) :: (us ++ ds)) _ _ (fun _ _ _ => False) (hr.make C us []) (I2.env0.make C us []) (hb _ (Value.ref (hp.objs.size + 1) :: us) I2.kIn hl) r2 hq) fun r s' z => ?_))
  cases r with
  | error er => exact hx pins σ _ _ er s' I2 z
  | ok fl =>
    cases fl with
    | ret u =>
      obtain ⟨v, H2, os2, bare2, un2, hok2, rv, rfl, d, fs, ea, ed, hd1, q2⟩ := z
      cases s'
      exact ⟨rv, mk_end (raises_own T.ex T.ty) I1 hsz up un2 hok2 os2 bare2 ea ed hd1 q2⟩
    | next => exact z.elim
    | brk => exact z.elim
    | cont => exact z.elim
end
end L2
/-! defs that may raise; errors with a field; what is caught -/
namespace T1
open PySem PySem.Spec PyProof.Rows L2 TK BstM DatI
section
variable {P : Program} {w : World} {K : PySem.W.Frag} {mg : Str → Option Value} {base : Heap}
/-- a def that keeps a promise, also of what it raises -/
structure OkX (P : Program) (w : World) (K : PySem.W.Frag) (mg : Str → Option Value) (base : Heap) (k : Nat) (x : Str) (ps : List Str) (sp : Sp) (f : Addr) (fd : FuncData) : Prop where
  ok : FnOk P w K mg base (L2.CX P w) k f fd ps sp
  g : mg x = some (.ref f)
  kp : PySem.W.keepIn K (.ref f) = true
  b : Binds K fd ps []
def OkXE (P : Program) (w : World) (K : PySem.W.Frag) (mg : Str → Option Value) (base : Heap) (k : Nat) (x : Str) (ps : List Str) (sp : Sp) : Prop := ∃ f fd, OkX P w K mg base k x ps sp f fd
theorem Has.okX {x : Str} {st : Stmt} {N ps : List Str} {k : Nat} {sp : Sp} (h : Has K mg x st) (S : FnScope N ps (defScope st))
    (hb : ∀ (kV doc pm : Value) (an : Option Addr) (cdv ct : Value) (us : List Value), us.length = ps.length → bindArgs (PySem.W.fnOf x x (defArgs st) (defBody st) (defScope st) .none kV doc pm an cdv ct) ⟨us, []⟩ = pure (ps.zip us))
    (len : ∀ vs H Q E, sp vs H Q E → vs.length = ps.length)
    (hbody : ∀ (f : Addr) (cdv : Value) (A : Around) (outer : List Env) (s : Shared) (H : Hp) (vs : List V) (Q : VK) (E : XK), Room k (A.deeper (envOfC x (defScope st) s.heap.objs.size f cdv)) → sp vs H Q E →
      ∃ t, PSs (cxOf (L2.CX P w) P w K mg base N x (defScope st) f cdv A outer s H E) (defBody st) t ∧ t { nx := fun _ H' => Q .non H', rt := Q } (start N vs) H) : OkXE P w K mg base (k + 1) x ps sp := by
  obtain ⟨f, fd, F, g⟩ := h
  exact ⟨f, fd, F.okX S len (fun cdv => hbody f cdv), g, F.kp, F.binds hb⟩
theorem pe_callX {X : Cx} {W : WX} {j k : Nat} {x : Str} {ps : List Str} {sp : Sp} {f : Addr} {fd : FuncData} {e : Expr} {es : List Expr} {t : TA} {p pos : Pos} (O : OkX X.prog X.w X.K X.mg X.base j x ps sp f fd) (hr : Room k X.A) (tk : Takes X W) (ha : PA X (e :: es) t) (hk : j ≤ k := by decide) (hg : Gl X x := by rfl)
    (hdb : (x == ("__debug__" : Str)) = false := by decide) (he : starEach (e :: es) X.env = (false, eval e X.env) :: starEach es X.env := by rfl) (hpl : (backTo pos (starEach es X.env)).any (·.1) = false := by rfl) :
    PE X (.Call (.Name x p) (e :: es) [] pos) (tCallS sp (WE W) t) := pe_callS O.ok (hr.mono hk) hg O.g O.kp O.b (fun σ => passAt tk σ) ha hdb he hpl
/-- what a body of a def that may raise wishes -/
abbrev WD (E : XK) : WX := fun cls d _ H => E cls d H
/-- __init__(self, y): self.f = y -/
def spInit (C : Addr) (f : Str) : Sp := fun vs H Q _ => ∃ (a : Addr) (y : V), vs = [.ref a, y] ∧ H a = some (exo a C none) ∧ ∀ dx, H dx = none → dx ≠ a → Q .non (upd (upd H dx (exd dx [(f, y)])) a (exo a C (some dx)))
/-- an error class with one field -/
structure ErrC (P : Program) (w : World) (K : PySem.W.Frag) (mg : Str → Option Value) (base : Heap) (x f : Str) (C : Addr) : Prop where
  g : mg x = some (.ref C)
  oex : OexB K C
  xf : XfC K C
  no : PySem.W.findIn K (.ref C) f = some none
  exc : ExcC K C
  te : PySem.W.exmOne K (.ref C) (.ref C) = some true
  ini : ∃ (fI : Addr) (fd : FuncData) (n : Str), PySem.W.findIn K (.ref C) "__init__" = some (some (.ref fI)) ∧ PySem.W.typeIn K (.ref fI) = some (.type "function") ∧ FnOk P w K mg base CX0 1 fI fd ["self", n] (spInit C f) ∧ Binds K fd ["self", n] []
/-- x(e): the error, its dict d new -/
def tErr (C : Addr) (f : Str) (ta : TA) : L2.St → Hp → XK → Prop := fun σ H Q => ta σ H fun vs H1 => ∃ y, vs = [y] ∧ ∀ d H', Same H1 H' → H1 d = none → H' d = some (.xd [(f, y)]) → Q (.ref C) (some d) H'
theorem PA.conseq {X : Cx} {es : List Expr} {t t' : TA} (h : PA X es t) (i : ∀ σ H Q, t' σ H Q → t σ H Q) : PA X es t' := ⟨fun pos pins s σ H Q I q => h.run pos pins s σ H Q I (i _ _ _ q)⟩
theorem pmk_err {X : Cx} {x f : Str} {C : Addr} {k : Nat} {e : Expr} {ta : TA} {p pos : Pos} (T : ErrC X.prog X.w X.K X.mg X.base x f C) (hr : Room k X.A) (ha : PA X [e] ta) (mono : ∀ σ H (Q Q' : List V → Hp → Prop), (∀ vs H1, Q vs H1 → Q' vs H1) → ta σ H Q → ta σ H Q') (hk : 2 ≤ k := by decide) (hg : Gl X x := by rfl)
    (hdb : (x == ("__debug__" : Str)) = false := by decide) (he : starEach (e :: []) X.env = (false, eval e X.env) :: starEach [] X.env := by rfl) (hpl : (backTo pos (starEach [] X.env)).any (·.1) = false := by rfl) :
    PMk X (.Call (.Name x p) [e] [] pos) (tErr C f ta) := by
  obtain ⟨fI, fd, n, i1, i2, F1, b⟩ := T.ini
  have M := pmk_oexB (p := p) (pos := pos) T.oex i1 i2 F1 (hr.mono hk) b .nil pass0 hg T.g ha hdb he hpl
  intro pins s σ H Q I h
  refine M pins s σ H Q I ?_
  refine mono _ _ _ _ (fun vs H1 hq => ?_) h
  obtain ⟨y, rfl, q⟩ := hq
  refine ⟨by show 1 ≤ 1000; decide, fun a na => ⟨a, y, rfl, upd_same, fun dx ndx hne => ⟨rfl, dx, [(f, y)], upd_same, ?_, ?_, ?_⟩⟩⟩
  · rw [upd_ne hne, upd_same]
  · rw [upd_ne hne] at ndx
    exact ndx
  · rw [upd_ne hne] at ndx
    refine q dx _ (fun b o e => ?_) ndx upd_same
    have h1 : b ≠ dx := ne_of_none e ndx
    have h2 : b ≠ a := ne_of_none e na
    rw [upd_ne h1, del_ne h2, upd_ne h2, upd_ne h1, upd_ne h2]
    exact e
/-- isinstance(e, c), e the error that the suite holds -/
def rIsX (K : PySem.W.Frag) (a : Addr) (cls : Value) (d : Option Addr) : List V → Hp → VK → Prop := fun xs H Q => ∃ (D : Addr) (c : V) (cv : Value) (b : Bool), cls = .ref D ∧ ExcC K D ∧ (d = none ∨ ∃ dd fs, d = some dd ∧ H dd = some (.xd fs)) ∧ xs = [.ref a, c] ∧ (∀ u, RelV c u → u = cv) ∧ PySem.W.kitOne K (.ref D) cv = some b ∧ Q (.bl b) H
theorem call_isX {X : Cx} {a : Addr} {oe : Obj} {cls : Value} {d : Option Addr} {pn : List (Addr × Obj)} (hz : Zc cls d oe) (hf : ∃ vs, oe.data = .fields vs) : CallR (X.suite a ((a, oe) :: pn)) (.builtin "isinstance") (rIsX X.K a cls d) := by
  intro pins s σ H xs us Q I r h
  obtain ⟨D, c, cv, b, rfl, C, hd, rfl, hcv, e, q⟩ := h
  cases r with
  | cons rx rr =>
    cases rr with
    | cons rt rr =>
      cases rr
      cases rx
      obtain rfl := hcv _ rt
      obtain ⟨hget, _⟩ := I.pin (a, oe) (List.mem_append_left _ List.mem_cons_self)
      obtain ⟨vs, hv⟩ := hf
      have hcl : (PySem.W.clsIn X.K D).isSome = true := by
        have := C.hd
        unfold PySem.W.hasDictIn at this
        cases z : PySem.W.clsIn X.K D with
        | none => rw [z] at this; cases this
        | some cd => rfl
      have J : ∃ od, PySem.W.InstAt s.heap a oe D od := by
        rcases hd with rfl | ⟨dd, fs, rfl, hdd⟩
        · exact ⟨none, hget, hz.1, by unfold PySem.W.notCls; rw [hv] <;> rfl, by rw [hz.2]; trivial⟩
        · have hx : ObjOk X.prog X.w H s.heap dd (.xd fs) := I.hok dd _ hdd
          obtain ⟨mA, hns, hr⟩ := hx
          obtain ⟨od, ho, hl⟩ := lookIn_ns hns
          exact ⟨some od, hget, hz.1, by unfold PySem.W.notCls; rw [hv] <;> rfl, by rw [hz.2]; exact ho⟩
      obtain ⟨od, J⟩ := J
      exact PySem.W.kia_one (PySem.W.kitx_exc hcl C.hg C.hk C.hs C.ha C.hn C.ht C.hm) I.kIn J e (fun z => nomatch z) fun tk => ⟨.bl b, H, I.kept (t' := tk) fun _ _ z => z, rfl, q⟩
end
end T1
/-! defs called where no repr is under way -/
namespace T1
open PySem PySem.Spec PyProof.Rows L2 TK BstM DatI
section
variable {P : Program} {w : World} {K : PySem.W.Frag} {mg : Str → Option Value} {base : Heap}
/-- a def that keeps a promise where no repr is under way -/
structure OkG (P : Program) (w : World) (K : PySem.W.Frag) (mg : Str → Option Value) (base : Heap) (k : Nat) (x : Str) (ps : List Str) (sp : Sp) (f : Addr) (fd : FuncData) : Prop where
  len : ∀ vs H Q E, sp vs H Q E → vs.length = ps.length
  go : ∀ (A : Around) (out : List Env) (s : Shared) (H : Hp) (us : List Value) (vs : List V) (Q : VK) (E : XK), A.guards = some [] → Room k A → Env0 P w K mg base A out s H → BindsTo s fd ⟨us, []⟩ (ps.zip us) → Vals vs us → sp vs H Q E →
    codeAny (model P w) A (.call (.ref f) ⟨us, []⟩) (CR CX0 out P w H s Q E) s
  g : mg x = some (.ref f)
  kp : PySem.W.keepIn K (.ref f) = true
  b : Binds K fd ps []
def OkGE (P : Program) (w : World) (K : PySem.W.Frag) (mg : Str → Option Value) (base : Heap) (k : Nat) (x : Str) (ps : List Str) (sp : Sp) : Prop := ∃ f fd, OkG P w K mg base k x ps sp f fd
theorem Has.okG {x : Str} {st : Stmt} {N ps : List Str} {k : Nat} {sp : Sp} (h : Has K mg x st) (S : FnScope N ps (defScope st))
    (hb : ∀ (kV doc pm : Value) (an : Option Addr) (cdv ct : Value) (us : List Value), us.length = ps.length → bindArgs (PySem.W.fnOf x x (defArgs st) (defBody st) (defScope st) .none kV doc pm an cdv ct) ⟨us, []⟩ = pure (ps.zip us))
    (len : ∀ vs H Q E, sp vs H Q E → vs.length = ps.length)
    (hbody : ∀ (f : Addr) (cdv : Value) (A : Around) (out : List Env) (s : Shared) (H : Hp) (vs : List V) (Q : VK) (E : XK), (A.deeper (envOfC x (defScope st) s.heap.objs.size f cdv)).guards = some [] → Room k (A.deeper (envOfC x (defScope st) s.heap.objs.size f cdv)) → sp vs H Q E →
      ∃ t, PSs (cxOf CX0 P w K mg base N x (defScope st) f cdv A out s H E).nox (defBody st) t ∧ t { nx := fun _ H' => Q .non H', rt := Q } (start N vs) H) : OkGE P w K mg base (k + 1) x ps sp := by
  obtain ⟨f, fd, F, g⟩ := h
  refine ⟨f, fd, len, fun A out s H us vs Q E hg hr e0 bb r hsp => ?_, g, F.kp, F.binds hb⟩
  obtain ⟨oc, od, kV, doc, pm, an, cdv, ct, osl, rfl, lk, hcd⟩ := F.ex
  have kin : K.In s.heap := e0.mod.kin.keeps fun b o e => (e0.bs b o e).1
  have nolim : s.heap.NoLimit := e0.mod.nolimit.keeps fun b o e => (e0.bs b o e).1
  have kinds : ∀ z ∈ ps.zip us, (defScope st).names.lookup z.1 = some .local ∨ ((defScope st).names.lookup z.1 = some .cell ∧ ((cellsFrom (s.heap.objs.size + 1) (defScope st).names []).lookup z.1).isSome = true) := fun z hz => by
    obtain ⟨n, c⟩ := z
    rcases S.par n (List.of_mem_zip hz).1 with e | e
    · exact Or.inl e
    · exact Or.inr ⟨e, PySem.W.cellsFrom_some _ _ _ (Or.inl e)⟩
  refine codeAny_call_function (Room.depth hr) (kin _ _ lk) rfl S.co S.gen rfl (PySem.W.codeRec_of kin hcd) (bb _ _ _ _ (wpAny_newFunctionEnv_cells S.kind kinds fun env he s1 ic => ?_))
  subst he
  refine ⟨nolim.keeps ic.toInCall.keep, codeAny_func ?_⟩
  obtain ⟨t, ht, hq⟩ := hbody f cdv A out s H vs Q E hg (Room.deeper hr _) hsp
  have I0 : Inv (cxOf CX0 P w K mg base N x (defScope st) f cdv A out s H E) [] (start N vs) H s1 := inv_start S hr.hd e0 (len _ _ _ _ hsp) r ic
  have ht' := PSs.nox ht
  refine wpAny_mono (ht'.run [] s1 (start N vs) H _ I0 hq) (fun fl s' hs => ?_) fun _ _ z => z
  have done : ∀ {σ' : L2.St} {H' : Hp} {a : V} {b : Value}, Inv (cxOf CX0 P w K mg base N x (defScope st) f cdv A out s H E) [] σ' H' s' → RelV a b → Q a H' → CE out P w H s Q b s' := fun {σ' H' a b} J ra qa => ⟨a, H', J.os, J.bare, J.base, J.hok, ra, qa⟩
  match fl, hs with
  | .ret b, ⟨a, σ', H', J, ra, qa⟩ => exact done J ra qa
  | .next, ⟨σ', H', J, qa⟩ => exact done (a := V.non) (b := Value.none) J rfl qa
  | .brk, ⟨_, _, _, z⟩ => exact z.elim
  | .cont, ⟨_, _, _, z⟩ => exact z.elim
theorem pe_callG {X : Cx} {j k : Nat} {x : Str} {ps : List Str} {sp : Sp} {f : Addr} {fd : FuncData} {e : Expr} {es : List Expr} {t : TA} {p pos : Pos} (O : OkG X.prog X.w X.K X.mg X.base j x ps sp f fd) (hgd : X.A.guards = some []) (hr : Room k X.A) (ha : PA X (e :: es) t) (hk : j ≤ k := by decide) (hg : Gl X x := by rfl)
    (hdb : (x == ("__debug__" : Str)) = false := by decide) (he : starEach (e :: es) X.env = (false, eval e X.env) :: starEach es X.env := by rfl) (hpl : (backTo pos (starEach es X.env)).any (·.1) = false := by rfl) :
    PE X (.Call (.Name x p) (e :: es) [] pos) (tCall sp [] (fun _ _ _ => False) t) := by
  refine ⟨fun pins s σ H Q I h => ?_⟩
  refine wpAny_Call_Name_kw (ld_glob I hg O.g ?_ hdb)
  refine PySem.W.callWith_K (h₀ := X.base) I.ok.mod.kin O.kp (thn (ha.run pos pins s σ H _ I h) fun us s1 ⟨vs, H1, I1, r, q⟩ => ⟨I1.kIn, ?_⟩) he hpl
  have q : sp vs H1 Q fun _ _ _ => False := by
    have q2 : sp (vs ++ []) H1 Q fun _ _ _ => False := q
    rw [List.append_nil] at q2
    exact q2
  show wpAny (model X.prog X.w) X.A (call (.ref f) us) _ _ _
  have hl : us.length = ps.length := by rw [← r.length]; exact O.len _ _ _ _ q
  have bb := O.b s1 us I1.kIn (by rw [List.append_nil]; exact hl)
  rw [List.append_nil] at bb
  refine wpAny_call (codeAny_mono (O.go X.A X.stack s1 H1 us vs Q (fun _ _ _ => False) hgd (hr.mono hk) I1.env0 bb r q) fun z s' hq => ?_)
  cases z with
  | error er => exact (pass0 (X := X)) pins σ H1 s1 er s' I1 hq
  | ok fl =>
    cases fl with
    | ret u => exact I1.after hq
    | next => exact hq.elim
    | brk => exact hq.elim
    | cont => exact hq.elim
end
end T1
namespace T1
open PySem PySem.Spec PyProof.Rows L2 TK BstM DatI
/-- the text that repr gives -/
inductive Rp (K : PySem.W.Frag) (H : Hp) : V → Str → Prop where
  | int (i : Int) (h : i.natAbs.log2 < 1920) : Rp K H (.int i) (toString i)
  | bl (b : Bool) : Rp K H (.bl b) (if b then "True" else "False")
  | non : Rp K H .non "None"
  | str (x : Str) (h : (reprText x).length ≤ sizeLine) (h5 : PyData.strOk (reprText x) = true) : Rp K H (.str x) (reprText x)
  | dat (a : Addr) (d : PyData) (h : Dp K H (.ref a) d) (h1 : d.showable = true) (h2 : d.hasDict = false) (h3 : d.depth ≤ 20) (h4 : d.shown.length ≤ sizeLine) (h5 : PyData.strOk d.shown = true) : Rp K H (.ref a) d.shown
theorem strOk_of (x : String) : PyData.strOk (Str.ofString x) = true := by
  rw [Str.ofString_eq_toList]
  unfold PyData.strOk
  rw [← Array.all_toList]
  refine List.all_eq_true.mpr fun n hn => ?_
  have hn2 : n ∈ x.toList.map Char.toNat := hn
  obtain ⟨c, _, rfl⟩ := List.mem_map.mp hn2
  refine decide_eq_true ?_
  have h := c.valid
  show c.val.toNat < 0x110000
  rcases h with h | h
  · have : c.val.toNat < 0xd800 := h
    omega
  · exact h.2
theorem Rp.ok {K : PySem.W.Frag} {H : Hp} {v : V} {t : Str} (h : Rp K H v t) : PyData.strOk t = true := by
  cases h with
  | int i h => exact strOk_of _
  | bl b => cases b <;> exact strOk_of _
  | non => exact strOk_of _
  | str x h h5 => exact h5
  | dat a d h h1 h2 h3 h4 h5 => exact h5
def rRepr (K : PySem.W.Frag) : List V → Hp → VK → Prop := fun xs H Q => ∃ v t, xs = [v] ∧ Rp K H v t ∧ Q (.str t) H
theorem call_reprV {X : Cx} {K : PySem.W.Frag} (hK : X.K = K) (hg : X.A.guards = some []) (hu : X.A.units + 64 < cLine) : CallR X (.builtin "repr") (rRepr K) := by
  subst hK
  intro pins s σ H xs us Q I r h
  obtain ⟨v, t, rfl, hp, q⟩ := h
  cases hp with
  | int i h => exact SkE.call_repr_int pins s σ H _ us Q I r ⟨i, rfl, h, q⟩
  | bl b => exact call_reprB pins s σ H _ us Q I r ⟨b, rfl, q⟩
  | non =>
    obtain ⟨u, rfl, ru⟩ := vals1 r
    obtain rfl : u = Value.none := ru
    exact PySem.P.repr_of_none ⟨.str _, H, I.tok _, ⟨_, rfl⟩, q⟩
  | str x h h5 =>
    obtain ⟨u, rfl, k, rfl⟩ := vals1 r
    exact PySem.P.repr_of_str ⟨.str _, H, I.tok _, ⟨_, rfl⟩, q⟩ h
  | dat a d h h1 h2 h3 h4 h5 => exact call_reprD hg hu pins s σ H _ us Q I r ⟨a, d, rfl, h, h1, h2, h3, h4, q⟩
end T1
namespace T1
open PySem PySem.Spec PyProof.Rows L2 TK BstM DatI
section
variable {P : Program} {w : World} {K : PySem.W.Frag} {mg : Str → Option Value} {base : Heap}
/-- is_integer's answer of a value -/
inductive IntAns (K : PySem.W.Frag) (H : Hp) : V → Bool → Prop where
  | int (i : Int) : IntAns K H (.int i) true
  | bl (c : Bool) : IntAns K H (.bl c) false
  | other {x : V} {t : String} (h : TyX K H x (.type t)) (k : kitB t "int" = some false) : IntAns K H x false
def spInteger (K : PySem.W.Frag) : Sp := fun vs H Q _ => ∃ x b, vs = [x] ∧ IntAns K H x b ∧ Q (.bl b) H
def spDepthsIn (K : PySem.W.Frag) : Sp := fun vs H Q _ => ∃ (a : Addr) (ns : List Int), vs = [.ref a] ∧ SqL K H a (ns.map V.int) ∧ Order ns ∧ ∀ H' b, Same H H' → H b = none → H' b = some (.lst ((depthsOf ns ns).map V.int)) → Q (.ref b) H'
def spParentIn (K : PySem.W.Frag) : Sp := fun vs H Q _ => ∃ (a : Addr) (ns : List Int) (k : Int), vs = [.ref a, .int k] ∧ SqL K H a (ns.map V.int) ∧ Order ns ∧ k ∈ ns ∧ ∀ H', Same H H' → Q (oV (parentIn ns.reverse k)) H'
/-- tree_after of an order -/
def spAfter (K : PySem.W.Frag) : Sp := fun vs H Q _ => ∃ (a : Addr) (ns : List Int), vs = [.ref a] ∧ SqL K H a (ns.map V.int) ∧ Order ns ∧ ∀ H' p ms, Same H H' → H p = none → Asc ms ns → TreeAt H' p (pairsOf ns ms) → Q (.ref p) H'
theorem parent_lastI {ns : List Int} (h : ns.Nodup) {k : Int} (hk : k ∈ ns) : parentIn ns.reverse k = (aboveOf ns k).getLast? := by
  rw [parentIn_eq]
  exact parent_last h hk
/-- two ascending lists of the same keys are one -/
theorem asc_unique {ms ms' ns : List Int} (h : ns.Nodup) (a : Asc ms ns) (b : Asc ms' ns) : ms = ms' := by
  have h1 := asc_lt h a
  have h2 := asc_lt h b
  exact List.Perm.eq_of_pairwise (fun x y _ _ h h' => by omega) h1 h2 (a.1.trans b.1.symm)
theorem atI_last (l : List V) (x : V) : atI (l ++ [x]) (-1) = some x := by
  unfold atI ixN
  have h : ¬ (0 : Int) ≤ -1 := by decide
  rw [if_neg h, List.length_append, List.length_singleton, if_pos (by omega)]
  have e : ((-1 : Int) + ((l.length + 1 : Nat) : Int)).toNat = l.length := by omega
  rw [e]
  show (l ++ [x])[l.length]? = some x
  rw [List.getElem?_append_right (Nat.le_refl _), Nat.sub_self]
  rfl
theorem gen_ord {l : PL} (hn : (l.map (·.1)).Nodup) (hp : Pairs l) (D : Nat) : Order (genOrder l D) where
  nd := genOrder_nodup hn D
  rng := fun k hk => by
    obtain ⟨x, hx, rfl⟩ := List.mem_map.mp (genOrder_key hk)
    exact hp.key x hx
  len := Nat.le_trans (genOrder_len hn D) hp.len
/-- the program's last question, of two tuples -/
theorem after_iff {l : PL} (ha : (l.map (·.1)).Pairwise (· < ·)) {D : Nat} (h1 : ∀ i, i < D → genRow l i ≠ []) (h2 : genRow l D = []) {ms : List Int} (hm : Asc ms (genOrder l D)) :
    l = pairsOf (genOrder l D) ms ↔ IsT l := by
  have hn : (l.map (·.1)).Nodup := ha.imp fun z => Int.ne_of_lt z
  have hon := genOrder_nodup hn D
  rw [← tree_iff ha h1 h2]
  constructor
  · intro e
    refine ⟨?_, fun x hx => ?_⟩
    · have := congrArg List.length e
      unfold pairsOf at this
      rw [List.length_map, hm.1.length_eq] at this
      exact this.symm
    · rw [e] at hx
      unfold pairsOf at hx
      obtain ⟨k, _, rfl⟩ := List.mem_map.mp hx
      exact (parentIn_eq _ _).symm
  · rintro ⟨hl, hp⟩
    have hperm : (l.map (·.1)).Perm (genOrder l D) := by
      refine (List.perm_ext_iff_of_nodup hn hon).mpr fun k => ⟨fun hk => ?_, fun hk => genOrder_key hk⟩
      refine Classical.byContradiction fun hno => ?_
      have := lenSub (k :: genOrder l D) (l.map (·.1)) (List.nodup_cons.mpr ⟨hno, hon⟩) fun x hx => by
        rcases List.mem_cons.mp hx with e | hx
        · rw [e]; exact hk
        · exact genOrder_key hx
      rw [List.length_cons, List.length_map, hl] at this
      omega
    have e : l.map (·.1) = ms := asc_unique hon ⟨hperm, ha.imp fun z => Int.le_of_lt z⟩ hm
    rw [← e]
    unfold pairsOf
    rw [List.map_map]
    conv => lhs; rw [← List.map_id l]
    refine List.map_congr_left fun x hx => ?_
    show x = (x.1, parentIn (genOrder l D).reverse x.1)
    rw [parentIn_eq, hp x hx]
/-- of a tree -/
theorem after_tree {ns ms ms' : List Int} (ho : Order ns) (ha : Asc ms ns) (hm : Asc ms' (rowOrder ns.reverse ms)) : pairsOf ns ms = pairsOf (rowOrder ns.reverse ms) ms' := by
  have hmn : ms.Nodup := ha.1.nodup_iff.mpr ho.nd
  have hop := rowOrder_perm (r := ns.reverse) hmn
  have e : ms = ms' := asc_unique (rowOrder_nodup hmn) ⟨hop.symm, ha.2⟩ hm
  subst e
  unfold pairsOf
  refine List.map_congr_left fun k hk => ?_
  have h := rows_rebuild (rev_nodup ho.nd) hmn (fun k => (asc_mem ha k).trans List.mem_reverse.symm) k hk
  rw [parentIn_eq, parentIn_eq, h]
theorem row_ord {ns ms : List Int} (ho : Order ns) (ha : Asc ms ns) : Order (rowOrder ns.reverse ms) where
  nd := rowOrder_nodup (ha.1.nodup_iff.mpr ho.nd)
  rng := fun k hk => ho.rng k ((asc_mem ha k).mp ((rowOrder_perm (r := ns.reverse) (ha.1.nodup_iff.mpr ho.nd)).mem_iff.mp hk))
  len := by
    rw [(rowOrder_perm (r := ns.reverse) (ha.1.nodup_iff.mpr ho.nd)).length_eq, ha.1.length_eq]
    exact ho.len
end
end T1
namespace L2
open PySem PySem.Spec PyProof.Rows
/-- a dict's comprehension over any walk -/
theorem dc_it {J : It} {n : Nat} {G : Hp → Prop} {Y : Nat → Hp → V → Hp → Prop} (w : Walk J n G Y) {g : TG} {tt : TT} {tk tv : TE} {vs : List Nat} {σ : St} {H1 : Hp} {D : Addr} {Qd : Hp → Prop} (Pv : Nat → Hp → Prop) (h0 : Pv 0 (upd H1 D (.dK []))) (hG : ∀ i H, i ≤ n → Pv i H → G H)
    (hs : ∀ i x H H', i < n → Pv i H → Y i H x H' → g x (wipe σ vs) H' fun σ2 H2 => wipe σ2 vs = wipe σ vs ∧ tt σ2 H2 fun b H3 =>
      if b = true then tk σ2 H3 fun y H4 => tv σ2 H4 fun z H5 => ∃ kvs k, y = kV k ∧ H5 D = some (.dK kvs) ∧ kvs.length < sizeLine ∧ Pv (i + 1) (upd H5 D (.dK (putK kvs k z))) else Pv (i + 1) H3) (hd : ∀ H, Pv n H → Qd H) :
    ∃ W : Nat → Nat → Hp → Prop, (∃ m, W 0 m (upd H1 D (.dK []))) ∧ ∀ i m H, W i m H →
      (J.stop i H ∧ Qd H) ∨ (J.go i H ∧ ∃ Nx : Hp → Prop, (∀ H', Nx H' → ∃ m', m' < m ∧ W (i + 1) m' H') ∧ ∀ x H', J.yld i H x H' → g x (wipe σ vs) H' fun σ2 H2 => wipe σ2 vs = wipe σ vs ∧ tt σ2 H2 fun b H3 =>
        if b = true then tk σ2 H3 fun y H4 => tv σ2 H4 fun z H5 => ∃ kvs k, y = kV k ∧ H5 D = some (.dK kvs) ∧ kvs.length < sizeLine ∧ Nx (upd H5 D (.dK (putK kvs k z))) else Nx H3) :=
  ⟨fun i m H => m = n - i ∧ i ≤ n ∧ Pv i H, ⟨n, rfl, Nat.zero_le _, h0⟩, fun i m H ⟨e, hi, p⟩ =>
    if hlt : i < n then .inr ⟨w.goes i H hlt (hG i H hi p), Pv (i + 1), fun _ p' => ⟨n - (i + 1), by omega, rfl, hlt, p'⟩, fun x H' y => hs i x H H' hlt p (w.yields i H x H' hlt (hG i H hi p) y)⟩
    else by
      obtain rfl : i = n := by omega
      exact .inl ⟨w.stops H (hG i H hi p), hd H p⟩⟩
section
variable {X : Cx}
/-- name = {..: .. for ..} on one line, the name a local -/
theorem ps_setDc {i : Nat} {y : Str} {py : Pos} {kx vx tg iter : Expr} {ifs : List Expr} {scope : Scope} {own : List (Str × Nat)} {pos spos : Pos} {wi : TI} {g : TG} {tt : TT} {tk tv : TE} (hc : X.calm = true) (hN : X.N.Nodup) (hy : X.N[i]? = some y) (hyl : X.env.scope.names.lookup y = some .local)
    (hsw : swapsWith (.DictComp kx vx [⟨tg, iter, ifs, 0⟩] scope pos) (some (.Name y py)) spos.line X.env = pure true) (hi : PI X tg iter wi) (ok : BlkOk X.N X.env.scope scope own)
    (hg : ∀ (s : Shared) (H : Hp) (C : Addr) (cl : List (Str × Addr)) (fp : List Addr), PG (X.blk s H scope (compEnvC scope cl C X.env) fp) tg g) (ht : ∀ (s : Shared) (H : Hp) (C : Addr) (cl : List (Str × Addr)) (fp : List Addr), PTs (X.blk s H scope (compEnvC scope cl C X.env) fp) ifs tt)
    (hk : ∀ (s : Shared) (H : Hp) (C : Addr) (cl : List (Str × Addr)) (fp : List Addr), PE (X.blk s H scope (compEnvC scope cl C X.env) fp) kx tk)
    (he : ∀ (s : Shared) (H : Hp) (C : Addr) (cl : List (Str × Addr)) (fp : List Addr), PE (X.blk s H scope (compEnvC scope cl C X.env) fp) vx tv) (hs : ∀ x, foldedSetIterable iter X.env x = pure x := by intro _; rfl) :
    PS X (.Assign [.Name y py] (.DictComp kx vx [⟨tg, iter, ifs, 0⟩] scope pos) spos) (tAsg (tDc wi g tt tk tv (own.map (·.2))) (gName i)) := by
  refine ⟨fun pins s σ H D I h => ?_⟩
  rw [exec_Assign_Name_used _ _ _ _ hsw]
  refine wpAny_bind (wpAny_standAt (wpAny_bind ?_))
  show wpAny _ X.A (do let _ ← comprehension (.DictComp kx vx [⟨tg, iter, ifs, 0⟩] scope pos) scope X.env (firstIterPos [⟨tg, iter, ifs, 0⟩] pos) newDict false (eval iter X.env) (some (assign (.Name y py) X.env))) _ _ s
  have h : tDc wi g tt tk tv (own.map (·.2)) σ H (fun x H1 => gName i x σ H1 D.nx) := h
  refine wpAny_bind (thn (dc_core (Qf := fun _ s' => SP X pins D .next s') hc hN I hi ok hg ht hk he hs h fun L C s' m H' I' q hn f => ?_) fun _ s' hq => wpAny_pure (wpAny_pure hq))
  show wpAny _ _ (assign (.Name y py) X.env (.ref L)) _ _ _
  refine wpAny_assign_Name (store_ok2 (v := V.ref L) I' hN hy (.inl hyl) rfl (fun s2 I2 ⟨a, sb, ha⟩ => ?_) (.inr hyl))
  obtain ⟨f0, f1, f2, f3, f4, f5⟩ := f
  have haC : C ≠ a := by
    rcases ha with z | z
    · rw [z]; exact f1
    · exact fun e => f4 y a z e.symm
  refine ⟨m, hn.sameBut sb haC, fun h3 sb3 => ?_⟩
  exact ⟨_, H', I2.turned (t' := s2.toks) (fun b o hb e => (sb3.2 b hb).trans e) f0 f1 f3 f4 f5, q⟩
theorem sw_trueD {kx vx : Expr} {gs : List Comprehension} {scope : Scope} {pos py : Pos} {y : Str} {l : Nat} {env : Env} (hk : env.scope.kind = .function) (hy : env.scope.names.lookup y = some .local) (hl : (py.line == pos.line) = true)
    (ha : (scope.names.any fun (n, k) => n == y && (k == .local || k == .cell)) = false) : swapsWith (.DictComp kx vx gs scope pos) (some (.Name y py)) l env = pure true := by
  have ky : env.kindOf y = some .local := hy
  have hb : env.blockKind = .function := by unfold Env.blockKind; rw [hk]; rfl
  unfold swapsWith
  simp only [hb, ky, ha, Expr.pos, hl]
  rfl
end
end L2
namespace T1
open PySem PySem.Spec PyProof.Rows L2 TK BstM DatI
/-- a dict of numbers -/
def dS (g : Int → Nat) (ms : List Int) : List (Key × V) := ms.map fun k => (Sum.inl k, V.int ((g k : Nat) : Int))
theorem dS_len (g : Int → Nat) (ms : List Int) : (dS g ms).length = ms.length := by unfold dS; rw [List.length_map]
theorem dS_val {g : Int → Nat} : ∀ {ms : List Int} {u : Int}, u ∈ ms → valV (dS g ms) (Sum.inl u) = some (.int ((g u : Nat) : Int))
  | x :: ms, u, h => by
    unfold dS
    rw [List.map_cons]
    by_cases e : x = u
    · rw [valV_pos (by rw [e]), e]
    · rw [valV_neg (fun z => e (Sum.inl.inj z))]
      exact dS_val ((List.mem_cons.mp h).resolve_left fun z => e z.symm)
theorem dS_new {g : Int → Nat} : ∀ {ms : List Int} {u : Int}, u ∉ ms → valV (dS g ms) (Sum.inl u) = none
  | [], _, _ => rfl
  | x :: ms, u, h => by
    unfold dS
    rw [List.map_cons, valV_neg (fun z => h (by rw [Sum.inl.inj z]; exact List.mem_cons_self))]
    exact dS_new fun z => h (List.mem_cons_of_mem _ z)
theorem dS_put {g : Int → Nat} {ms : List Int} {u : Int} (h : u ∈ ms) : putK (dS g ms) (Sum.inl u) (.int ((g u : Nat) + 1)) = dS (fun k => g k + if k = u then 1 else 0) ms := by
  unfold putK
  rw [valV_any, dS_val h, if_pos (show (some (V.int ((g u : Nat) : Int))).isSome = true from rfl)]
  unfold dS
  rw [List.map_map]
  refine List.map_congr_left fun k _ => ?_
  by_cases e : k = u
  · subst e
    simp
  · simp [e]
theorem dS_congr {g g' : Int → Nat} {ms : List Int} (h : ∀ k ∈ ms, g k = g' k) : dS g ms = dS g' ms := List.map_congr_left fun k hk => by rw [h k hk]
/-- how many of these keys a key is equal to or above -/
def cntL (r q : List Int) (k : Int) : Nat := (q.filter fun x => decide (k ∈ pathUp r x)).length
theorem cntL_perm {os ms : List Int} (hp : ms.Perm os) (k : Int) : cntL os.reverse ms k = sz os k := (hp.filter _).length_eq
theorem cntL_snoc (r q : List Int) (x k : Int) : cntL r (q ++ [x]) k = cntL r q k + if k ∈ pathUp r x then 1 else 0 := by
  unfold cntL
  rw [List.filter_append, List.length_append, List.filter_cons]
  by_cases h : k ∈ pathUp r x <;> simp [h]
def spSizes : Sp := fun vs H Q _ => ∃ (p : Addr) (ns ms : List Int), vs = [.ref p] ∧ TreeOf H p ns ms ∧ ∀ H' d, Same H H' → H d = none → H' d = some (.dK (dS (sz ns) ms)) → Q (.ref d) H'
end T1
namespace T1
open PySem PySem.Spec PyProof.Rows L2 TK BstM DatI
def spFact : Sp := fun vs H Q _ => ∃ n : Nat, vs = [.int ((n : Nat) : Int)] ∧ n ≤ 1000 ∧ Q (.int ((fact n : Nat) : Int)) H
end T1
namespace T1
open PySem PySem.Spec PyProof.Rows L2 TK BstM DatI
theorem merge_dS : ∀ (q acc : List Int) (g : Int → Nat), (acc ++ q).Nodup → mergeK (dS g acc) (dS g q) = dS g (acc ++ q)
  | [], acc, g, _ => by rw [List.append_nil]; rfl
  | x :: q, acc, g, h => by
    have hx : x ∉ acc := fun z => (List.nodup_append.mp h).2.2 x z x List.mem_cons_self rfl
    have e : putK (dS g acc) (Sum.inl x) (.int ((g x : Nat) : Int)) = dS g (acc ++ [x]) := by
      rw [putK_new _ (dS_new hx)]
      unfold dS
      rw [List.map_append]
      rfl
    have ih := merge_dS q (acc ++ [x]) g (by rw [List.append_assoc]; exact h)
    rw [List.append_assoc] at ih
    show mergeK (putK (dS g acc) (Sum.inl x) (.int ((g x : Nat) : Int))) (dS g q) = _
    rw [e]
    exact ih
/-- the law's sizes of a dict of parents -/
def spLSizes : Sp := fun vs H Q _ => ∃ (d : Addr) (ns : List Int), vs = [.ref d] ∧ H d = some (.dK (parsR ns.reverse)) ∧ ns.Nodup ∧ ns.length ≤ 40 ∧ ∀ H' b, Same H H' → H b = none → H' b = some (.dK (dS (sz ns) ns)) → Q (.ref b) H'
theorem lock_same {H H' : Hp} {d : Addr} {od : Obj} {o : HO} (hd : H d = some o) (s : Same (upd H d (.frz od o)) H') : Same H (upd H' d o) := fun a x e => by
  by_cases z : a = d
  · subst z
    rw [upd_same]
    rw [hd] at e
    exact e
  · rw [upd_ne z]
    exact s a x (by rw [upd_ne z]; exact e)
end T1
namespace T1
open PySem PySem.Spec PyProof.Rows L2 TK BstM DatI
/-- divided by one size after the other -/
def divL (n : Nat) (g : Int → Nat) (l : List Int) : Nat := l.foldl (fun a k => a / g k) n
theorem divL_eq (g : Int → Nat) : ∀ (l : List Int) (n : Nat), divL n g l = n / prodN l g
  | [], n => by show n = n / 1; rw [Nat.div_one]
  | x :: l, n => by
    show divL (n / g x) g l = _
    rw [divL_eq g l, prodN_cons, Nat.div_div_eq_div_mul]
theorem divL_snoc (n : Nat) (g : Int → Nat) (l : List Int) (x : Int) : divL n g (l ++ [x]) = divL n g l / g x := by unfold divL; rw [List.foldl_append]; rfl
theorem sz_le (os : List Int) (k : Int) : sz os k ≤ os.length := List.length_filter_le _ _
def spLCount : Sp := fun vs H Q _ => ∃ (d : Addr) (ns : List Int), vs = [.ref d] ∧ H d = some (.dK (parsR ns.reverse)) ∧ ns.Nodup ∧ ns.length ≤ 40 ∧ ∀ H', Same H H' → Q (.int ((fact ns.length / prodN ns (sz ns) : Nat) : Int)) H'
end T1
namespace T1
open PySem PySem.Spec PyProof.Rows L2 TK BstM DatI
theorem paired_app {α β : Type} {F : α → β → Prop} : ∀ {l l' : List α} {m m' : List β}, Paired F l m → Paired F l' m' → Paired F (l ++ l') (m ++ m')
  | _, _, _, _, .nil, h => h
  | _, _, _, _, .cons r t, h => .cons r (paired_app t h)
/-- the ways to make an order one key longer -/
def longer (ms s : List Int) : List (List Int) := (ms.filter fun k => !decide (k ∈ s)).map fun k => s ++ [k]
theorem layer_succ (ms : List Int) (t : Nat) : layer ms (t + 1) = (layer ms t).flatMap (longer ms) := rfl
theorem layer_part {ms : List Int} (hm : ms.Nodup) (h6 : ms.length ≤ 6) {t : Nat} (h : t < ms.length) (j : Nat) : (((layer ms t).take j).flatMap (longer ms)).length ≤ 720 := by
  have h1 := layer_720 hm h6 (t := t + 1) h
  rw [layer_succ, ← List.take_append_drop j (layer ms t), List.flatMap_append, List.length_append] at h1
  omega
def spPerms (K : PySem.W.Frag) : Sp := fun vs H Q _ => ∃ (a : Addr) (ms : List Int), vs = [.ref a] ∧ SqL K H a (ms.map V.int) ∧ ms.Nodup ∧ ms.length ≤ 6 ∧ ∀ H' b as, Same H H' → H b = none → H' b = some (.lst (as.map V.ref)) → ListsAt H' as (layer ms ms.length) → (∀ c ∈ as, H c = none) → Q (.ref b) H'
end T1
namespace T1
open PySem PySem.Spec PyProof.Rows L2 TK BstM DatI
/-- how many orders a tree has -/
def cntO (ns : List Int) : Nat := fact ns.length / prodN ns (sz ns)
def spCountW : Sp := fun vs H Q _ => ∃ (d : Addr) (ns ms : List Int), vs = [.ref d] ∧ H d = some (.dK (dS (sz ns) ms)) ∧ ns.Nodup ∧ ns.length ≤ 40 ∧ ms.Perm ns ∧ ∀ H', Same H H' → Q (.int ((cntO ns : Nat) : Int)) H'
def spCountO : Sp := fun vs H Q _ => ∃ (p : Addr) (ns ms : List Int), vs = [.ref p] ∧ TreeOf H p ns ms ∧ ∀ H', Same H H' → Q (.int ((cntO ns : Nat) : Int)) H'
theorem prodN_snoc (l : List Int) (x : Int) (g : Int → Nat) : prodN (l ++ [x]) g = prodN l g * g x := by
  have h := prodN_perm (g := g) (show (l ++ [x]).Perm (x :: l) from List.perm_append_comm)
  rw [h, prodN_cons, Nat.mul_comm]
theorem prodN_le {g : Int → Nat} {c : Nat} : ∀ (l : List Int), (∀ k ∈ l, g k ≤ c) → prodN l g ≤ c ^ l.length
  | [], _ => Nat.le_refl 1
  | x :: l, h => by
    rw [prodN_cons, List.length_cons, Nat.pow_succ, Nat.mul_comm]
    exact Nat.mul_le_mul (prodN_le l fun k hk => h k (List.mem_cons_of_mem _ hk)) (h x List.mem_cons_self)
theorem prodN_bits {ns ms : List Int} (hl : ns.length ≤ 40) (hp : ms.Perm ns) : prodN ms (sz ns) < 2 ^ 300 := by
  have h1 := prodN_le (c := 40) ms (g := sz ns) fun k _ => Nat.le_trans (sz_le ns k) hl
  have h2 : 40 ^ ms.length ≤ 40 ^ 40 := Nat.pow_le_pow_right (by decide) (by rw [hp.length_eq]; exact hl)
  have h3 : (40 : Nat) ^ 40 < 2 ^ 300 := by decide +kernel
  omega
end T1
namespace T1
open PySem PySem.Spec PyProof.Rows L2 TK BstM DatI
/-- the ways of a statement meet behind it -/
theorem viaSeq {t u : TS} {D : Ends} {σ : L2.St} {H : Hp} (R : L2.St → Hp → Prop) (h : ∀ D' : Ends, D'.rt = D.rt → (∀ σ' H', R σ' H' → D'.nx σ' H') → t D' σ H) (key : ∀ σ' H', R σ' H' → u D σ' H') : tSeq t u D σ H := h { D with nx := u D } rfl key
/-- the ways of a value meet -/
theorem viaVal {te : TE} {g : TG} {ts : TS} {D : Ends} {σ : L2.St} {H : Hp} (R : VK) (h : ∀ Q' : VK, (∀ v G, R v G → Q' v G) → te σ H Q') (key : ∀ v G, R v G → g v σ G (fun σ' G' => ts D σ' G')) : tSeq (tAsg te g) ts D σ H := h _ key
theorem viaA {r : R2} {ta tb : TE} {σ : L2.St} {H : Hp} {Q : VK} (R1 : VK) (h1 : ∀ Q' : VK, (∀ v G, R1 v G → Q' v G) → ta σ H Q') (h2 : ∀ v G, R1 v G → tb σ G (fun y G2 => r v y G2 Q)) : tOp r ta tb σ H Q := h1 _ h2
theorem viaE {te : TE} {σ : L2.St} {H : Hp} {Q : VK} (R : VK) (h : ∀ Q' : VK, (∀ v G, R v G → Q' v G) → te σ H Q') (key : ∀ v G, R v G → Q v G) : te σ H Q := h Q key
/-- a source of draws: the cells of the script at q -/
structure BoxV (cs : List Int) (i b s : Int) : Prop where
  i0 : 0 ≤ i
  cs0 : ∀ c ∈ cs, 0 ≤ c
  b0 : 0 ≤ b
  s0 : 0 ≤ s
  s1 : s < 2147483647
def Box (H : Hp) (p q : Addr) : Prop := ∃ cs i b s, H p = some (.lst [.ref q, .int i, .int b, .int s]) ∧ H q = some (.lst (cs.map V.int)) ∧ p ≠ q ∧ BoxV cs i b s
theorem Box.same {H H' : Hp} {p q : Addr} (h : Box H p q) (s : Same H H') : Box H' p q := by
  obtain ⟨cs, i, b, sd, e1, e2, n, v⟩ := h
  exact ⟨cs, i, b, sd, s _ _ e1, s _ _ e2, n, v⟩
theorem Box.ne {H : Hp} {p q l : Addr} (h : Box H p q) (n : H l = none) : l ≠ p := by
  obtain ⟨cs, i, b, sd, e1, _⟩ := h
  exact (ne_of_none e1 n).symm
theorem Box.neq {H : Hp} {p q l : Addr} (h : Box H p q) (n : H l = none) : l ≠ q := by
  obtain ⟨cs, i, b, sd, _, e2, _⟩ := h
  exact (ne_of_none e2 n).symm
/-- all but the source is as it was -/
def Kb (p q : Addr) (H H' : Hp) : Prop := Box H' p q ∧ ∀ b o, b ≠ p → H b = some o → H' b = some o
theorem Kb.refl {p q : Addr} {H : Hp} (h : Box H p q) : Kb p q H H := ⟨h, fun _ _ _ e => e⟩
theorem Kb.trans {p q : Addr} {H H1 H2 : Hp} (a : Kb p q H H1) (b : Kb p q H1 H2) : Kb p q H H2 := ⟨b.1, fun c o n e => b.2 c o n (a.2 c o n e)⟩
theorem Kb.same {p q : Addr} {H H1 H2 : Hp} (a : Kb p q H H1) (s : Same H1 H2) : Kb p q H H2 := ⟨a.1.same s, fun b o n e => s _ _ (a.2 b o n e)⟩
theorem Kb.new {p q x : Addr} {H : Hp} {o : HO} (h : Box H p q) (n : H x = none) : Kb p q H (L2.upd H x o) := (Kb.refl h).same (same_upd n)
theorem Kb.free {p q x : Addr} {H H1 : Hp} (a : Kb p q H H1) (h0 : Box H p q) (h : H1 x = none) : H x = none := by
  cases e : H x with
  | none => rfl
  | some o =>
    by_cases n : x = p
    · rw [n] at h
      obtain ⟨cs, i, b, sd, e1, _⟩ := a.1
      rw [e1] at h
      cases h
    · rw [a.2 x o n e] at h
      cases h
theorem Kb.put {p q x : Addr} {H H1 : Hp} {o : HO} (a : Kb p q H H1) (h0 : Box H p q) (n : H x = none) : Kb p q H (L2.upd H1 x o) := by
  have h1 := h0.ne n
  have h2 := h0.neq n
  obtain ⟨⟨cs, i, b, sd, e1, e2, nq, v⟩, k⟩ := a
  refine ⟨⟨cs, i, b, sd, by rw [upd_ne h1.symm]; exact e1, by rw [upd_ne h2.symm]; exact e2, nq, v⟩, fun c o' nc e => ?_⟩
  rw [upd_ne (ne_of_none e n)]
  exact k c o' nc e
/-- what stood before the source was made stands -/
theorem Kb.old {p q : Addr} {H0 H H' : Hp} (a : Kb p q H H') (s : Same H0 H) (n : H0 p = none) : Same H0 H' := fun b o e => a.2 b o (ne_of_none e n) (s b o e)
theorem Kb.tree {p q t : Addr} {H H' : Hp} {l : List (Int × Option Int)} (a : Kb p q H H') (h0 : Box H p q) (h : TreeAt H t l) : TreeAt H' t l := by
  obtain ⟨cs, i, b, sd, e1, _⟩ := h0
  obtain ⟨as, h1, h2⟩ := h
  have ne : ∀ {c : Addr} {xs : List V}, H c = some (.tup xs) → c ≠ p := fun {c xs} e => ne_of e e1 (fun z => nomatch z)
  exact ⟨as, a.2 _ _ (ne h1) h1, Paired.mapP h2 fun c y z => a.2 _ _ (ne z) z⟩
def spBox (K : PySem.W.Frag) : Sp := fun vs H Q _ => ∃ (a : Addr) (ns : List Int), vs = [.ref a] ∧ SqL K H a (ns.map V.int) ∧ ns.length ≤ 63 ∧ ∀ H' p q, Same H H' → H p = none → H q = none → Box H' p q → Q (.ref p) H'
def spDrawB : Sp := fun vs H Q _ => ∃ (p q : Addr) (c : Int), vs = [.ref p, .int c] ∧ Box H p q ∧ 0 < c ∧ c < 2 ^ 64 ∧ ∀ H' r, Kb p q H H' → 0 ≤ r → r < c → Q (.int r) H'
def spKeysB : Sp := fun vs H Q _ => ∃ (p q : Addr) (lo hi : Nat), vs = [.ref p, .int lo, .int hi] ∧ Box H p q ∧ lo ≤ hi ∧ hi ≤ 40 ∧ ∀ H' b ks, Kb p q H H' → H b = none → b ≠ p → H' b = some (.lst (ks.map V.int)) → Keys ks → lo ≤ ks.length → ks.length ≤ hi → Q (.ref b) H'
def spShufB (K : PySem.W.Frag) : Sp := fun vs H Q _ => ∃ (p q b : Addr) (ks : List Int), vs = [.ref p, .ref b] ∧ Box H p q ∧ SqL K H b (ks.map V.int) ∧ ks.length ≤ 40 ∧ ∀ H' c (ms : List Int), Kb p q H H' → H c = none → c ≠ p → H' c = some (.lst (ms.map V.int)) → ms.Perm ks → Q (.ref c) H'
theorem pickS (r : Int) (h0 : 0 ≤ r) (h1 : r < 5) : ∃ v : Int, atI [V.int 1, V.int 1, V.int 2, V.int 9, V.int (10 ^ (15 : Int).toNat)] r = some (.int v) ∧ (v = 1 ∨ v = 2 ∨ v = 9 ∨ v = 10 ^ 15) := by
  have : r = 0 ∨ r = 1 ∨ r = 2 ∨ r = 3 ∨ r = 4 := by omega
  rcases this with rfl | rfl | rfl | rfl | rfl
  · exact ⟨1, rfl, by decide⟩
  · exact ⟨1, rfl, by decide⟩
  · exact ⟨2, rfl, by decide⟩
  · exact ⟨9, rfl, by decide⟩
  · exact ⟨10 ^ 15, rfl, by decide⟩
theorem pickE (r : Int) (h0 : 0 ≤ r) (h1 : r < 4) : ∃ v : Int, atI [V.int 0, V.int 0, V.int 1, V.int 2] r = some (.int v) ∧ 0 ≤ v ∧ v ≤ 2 := by
  have : r = 0 ∨ r = 1 ∨ r = 2 ∨ r = 3 := by omega
  rcases this with rfl | rfl | rfl | rfl
  · exact ⟨0, rfl, by decide, by decide⟩
  · exact ⟨0, rfl, by decide, by decide⟩
  · exact ⟨1, rfl, by decide, by decide⟩
  · exact ⟨2, rfl, by decide, by decide⟩
theorem keys_first {ks : List Int} (h : Keys ks) (hb : ∀ k ∈ ks, -(10 ^ 18) < k) : Keys (ks.set 0 (0 - 10 ^ 18)) := by
  cases ks with
  | nil => exact h
  | cons x l =>
    have h1 := List.pairwise_cons.mp h.lt
    refine ⟨List.pairwise_cons.mpr ⟨fun y hy => ?_, h1.2⟩, fun k hk => ?_⟩
    · have := hb y (List.mem_cons_of_mem _ hy)
      omega
    · rcases List.mem_cons.mp hk with e | hk
      · subst e
        unfold InR
        omega
      · exact h.rng k (List.mem_cons_of_mem _ hk)
theorem keys_lastR {ks : List Int} (h : Keys ks) (hl : 1 < ks.length) (hb : ∀ k ∈ ks, k < 10 ^ 18) : Keys (ks.set (ks.length - 1) (10 ^ 18)) := keys_last h hb (by omega)
end T1
/-! sorted(list of pairs), the first of each an int, no two the same: by the first alone -/
namespace SrtO
open PySem PySem.Spec PySem.W PyProof.Rows L2
section
variable {prog : Program} {w : World} {A : Around} {E : Value → Shared → Prop} {s : Shared}
def IsPairW (h : Heap) (v : Value) (x : Int) : Prop := ∃ a o t z n, v = .ref a ∧ h.get? a = some o ∧ o.cls = .type "tuple" ∧ o.data = .seq #[.int x t, z] n
theorem IsPairW.keeps {h h' : Heap} {v : Value} {x : Int} (p : IsPairW h v x) (k : ∀ b o, h.get? b = some o → o.cls = .type "tuple" → h'.get? b = some o) : IsPairW h' v x := by
  obtain ⟨a, o, t, u, n, e, ho, hc, hd⟩ := p
  exact ⟨a, o, t, u, n, e, k _ _ ho hc, hc, hd⟩
theorem firstsW {h : Heap} : ∀ {vs : List Value}, (∀ v ∈ vs, ∃ x, IsPairW h v x) → ∃ fs : List Value, PySem.W.KatTups h vs fs ∧ fs.length = vs.length ∧ ∀ f ∈ fs, ∃ x t, f = Value.int x t
  | [], _ => ⟨[], PySem.W.KatTups.nil, rfl, fun _ hm => by simp at hm⟩
  | v :: vs, hp => by
    obtain ⟨fs, h1, h2, h3⟩ := firstsW (vs := vs) fun v' hm => hp v' (List.mem_cons_of_mem _ hm)
    obtain ⟨x, a, o, t, u, n, e, ho, hc, hd⟩ := hp v (List.mem_cons_self ..)
    subst e
    refine ⟨.int x t :: fs, PySem.W.KatTups.cons ho hc hd rfl h1, by rw [List.length_cons, List.length_cons, h2], fun f hm => ?_⟩
    rcases List.mem_cons.mp hm with rfl | hm
    · exact ⟨x, t, rfl⟩
    · exact h3 f hm
def ltK (k : Value → Int) (v u : Value) : Bool := decide (k v < k u)
theorem swo_ltK (k : Value → Int) : Swo (ltK k) := by
  refine ⟨fun x y h => ?_, fun x y z h1 h2 => ?_⟩
  · have a : k x < k y := of_decide_eq_true h
    exact decide_eq_false (by omega)
  · have a := of_decide_eq_false h1
    have b := of_decide_eq_false h2
    exact decide_eq_false (by omega)
theorem pairW_cmp {vs : List Value} {k : Value → Int} (hp : ∀ v ∈ vs, IsPairW s.heap v (k v)) (hi : ∀ v ∈ vs, ∀ u ∈ vs, k v = k u → v = u) : Cmp prog w A s (tuples' true) (fun p => p.1 ∈ vs) (lt2 (ltK k)) := by
  intro p q hm hm'
  have h1 := hp _ hm
  have h2 := hp _ hm'
  have h3 := hi _ hm _ hm'
  show wpAny (model prog w) A (keyLt' (tuples' true) p.1 q.1) (fun r s' => s' = s ∧ r = decide (k p.1 < k q.1)) (fun _ _ => False) s
  obtain ⟨a, o, t, z, n, e, ho, hc, hd⟩ := h1
  obtain ⟨a', o', t', z', n', e', ho', hc', hd'⟩ := h2
  generalize hx : k p.1 = x at h3 hd ⊢
  generalize hx' : k q.1 = x' at h3 hd' ⊢
  rw [e, e']
  refine PySem.W.kat_lt ho hd ho' hd' ?_
  show PySem.W.KatLex prog w A true (decide (2 < 2)) _ [(.int x t, .int x' t'), (z, z')] 0 s
  refine PySem.W.kat_cons (SeqAt.EqAt.int_int x t x' t' prog w _ _ ?_)
  refine PySem.W.kat_go (fun e1 => ?_) (fun e1 => ?_)
  · have ex : x = x' := by simpa using e1
    have ev := h3 ex
    rw [e, e'] at ev
    cases ev
    rw [ho] at ho'
    cases ho'
    rw [hd] at hd'
    have ez : z = z' := by
      injection hd' with h4 h5
      have := congrArg (fun l : Array Value => l[1]?) h4
      simpa using this
    subst ez
    refine PySem.W.kat_yes (PySem.W.kat_cons (SeqAt.EqAt.same z prog w _ _ ?_))
    refine PySem.W.kat_go (fun _ => ?_) (fun e2 => by cases e2)
    have e3 : decide (x < x') = false := decide_eq_false (by omega)
    exact PySem.W.kat_yes (PySem.W.kat_nil ⟨rfl, e3.symm⟩)
  · exact PySem.W.kat_no (oneLt_int ⟨rfl, rfl⟩)
theorem pairsW_sortable {a : Addr} {vs : List Value} {k : Value → Int} (h0 : 0 < vs.length) (hp : ∀ v ∈ vs, IsPairW s.heap v (k v)) (hi : ∀ v ∈ vs, ∀ u ∈ vs, k v = k u → v = u) (ha : ∀ o, s.heap.get? a = some o → o.cls ≠ .type "tuple") : SortableO prog w A s a vs (ltK k) := by
  intro h' keep
  have hp' : ∀ v ∈ vs, IsPairW h' v (k v) := fun v hm => (hp v hm).keeps fun b o e c => keep b o (fun z => by subst z; exact ha o e c) e
  obtain ⟨fs, h1, h2, h3⟩ := firstsW fun v hm => ⟨_, hp' v hm⟩
  refine ⟨tuples' true, fun Q E hq => ?_, pairW_cmp hp' hi⟩
  refine PySem.W.kat_kind (T := .type "int") h1 (by omega) (fun f hm => ?_) (by rfl) ?_
  · obtain ⟨x, t, rfl⟩ := h3 f hm
    exact PySem.W.Looks.now
  · have e : (Value.type "int" != Value.type "tuple") = true := by first | decide +kernel | rfl | decide
    rw [e]
    exact hq
theorem sorted_pairsW {l : Addr} {vs : List Value} {k : Value → Int} {Q : Value → Shared → Prop} (hl : s.heap.IsList l vs.toArray) (hz : vs.length ≤ sizeLine) (hp : ∀ v ∈ vs, IsPairW s.heap v (k v)) (hi : ∀ v ∈ vs, ∀ u ∈ vs, k v = k u → v = u)
    (h : ∀ (h' : Heap) (d : Addr) (out : List Value), Srtd (ltK k) out → Stb (ltK k) out vs → (∀ b o, s.heap.get? b = some o → h'.get? b = some o) → s.heap.objs.size ≤ d → (∃ n, h'.get? d = some (seqObj "list" out.toArray n)) → Q (.ref d) { s with heap := h' }) :
    wpAny (model prog w) A (call (.builtin "sorted") [.ref l]) Q E s := by
  refine sorted_ord (swo_ltK k) hl hz (fun h2 h₁ a ha kk => ?_) fun out hs hb => ?_
  · refine pairsW_sortable (s := { s with heap := h₁ }) (by omega) (fun v hm => (hp v hm).keeps fun b o e _ => (kk b o e).2) hi fun o e => ?_
    have e' : some o = some (seqObj "list" vs.toArray 0) := e.symm.trans ha
    cases e'
    intro c
    exact absurd (Value.type.inj c) (by decide)
  · exact h _ _ out hs hb (fun b o e => sortedAll_old e) (Nat.le_succ _) (sortedAll_at s.heap vs out.toArray)
end
end SrtO
namespace L2
open PySem PySem.Spec PyProof.Rows
/-- sorted(xs), xs a list of pairs whose first are different ints -/
def rSortedFO (K : PySem.W.Frag) : List V → Hp → VK → Prop := fun vs H Q => ∃ (a : Addr) (ts : List Addr) (k : Addr → Int), vs = [V.ref a] ∧ SqL K H a (ts.map V.ref) ∧ (∀ t ∈ ts, ∃ z, H t = some (.tup [.int (k t), z])) ∧ (∀ t ∈ ts, ∀ u ∈ ts, k t = k u → t = u) ∧
  ∀ (us : List Addr) p, us.Perm ts → us.Pairwise (fun t u => k t ≤ k u) → H p = none → Q (.ref p) (upd H p (.lst (us.map V.ref)))
def adV : Value → Addr
  | .ref a => a
  | _ => 0
section
variable {X : Cx}
theorem cr_sortedFO : CallR X (.builtin "sorted") (rSortedFO X.K) := by
  intro pins s σ H vs us Q I r h
  obtain ⟨a, ts, k, rfl, hs, hx, hi, q⟩ := h
  obtain ⟨its, rv, hl, hz⟩ := I.list hs
  obtain ⟨u, rfl, ru⟩ := vals1 r
  obtain rfl : u = Value.ref a := ru
  obtain ⟨e1, e2⟩ := refs_back rv fun x m => by
    obtain ⟨t, _, rfl⟩ := List.mem_map.mp m
    exact ⟨t, rfl⟩
  have hts : ts = its.map adV := by
    have e3 : its.map backV = (its.map adV).map V.ref := by
      rw [List.map_map]
      refine List.map_congr_left fun u hu => ?_
      obtain ⟨b, rfl⟩ := e2 u hu
      rfl
    rw [e3] at e1
    exact (List.map_inj_right fun _ _ z => V.ref.inj z).mp e1
  have mem : ∀ t, Value.ref t ∈ its → t ∈ ts := fun t h => by
    rw [hts]
    exact List.mem_map.mpr ⟨_, h, rfl⟩
  refine SrtO.sorted_pairsW (k := fun u => k (adV u)) hl.isList (by rw [← rv.length]; exact hz) (fun v hv => ?_) (fun v hv u hu e => ?_) fun h' d out h1 h2 kp hd hn => ?_
  · obtain ⟨t, rfl⟩ := e2 v hv
    obtain ⟨z, ht⟩ := hx t (mem t hv)
    obtain ⟨_, its2, r2, o, ho, hc, n, hd⟩ := I.hok _ _ ht
    obtain ⟨u1, u2, rfl, ri, rj⟩ := vals2 r2
    obtain ⟨t1, rfl⟩ := ri
    exact ⟨t, o, t1, u2, n, rfl, ho, hc, hd⟩
  · obtain ⟨t, rfl⟩ := e2 v hv
    obtain ⟨t', rfl⟩ := e2 u hu
    rw [hi t (mem t hv) t' (mem t' hu) e]
  · have h3 : ∀ u ∈ out, ∃ a, u = Value.ref a := fun u hu => e2 u (h2.perm.mem_iff.mp hu)
    obtain ⟨n, hn⟩ := hn
    have e4 : out.map backV = (out.map adV).map V.ref := by
      rw [List.map_map]
      refine List.map_congr_left fun u hu => ?_
      obtain ⟨b, rfl⟩ := h3 u hu
      rfl
    have pm : (out.map adV).Perm ts := by
      rw [hts]
      exact h2.perm.map adV
    have sr : (out.map adV).Pairwise (fun t u => k t ≤ k u) := List.pairwise_map.mpr (h1.imp fun {x y} z => by
      have z2 : ¬ k (adV y) < k (adV x) := of_decide_eq_false z
      omega)
    refine ⟨.ref d, upd H d (.lst (out.map backV)), I.laid (t' := s.toks) kp hd ⟨?_, out, n, vals_back h3, hn⟩, rfl, ?_⟩
    · rw [e4, List.length_map, pm.length_eq]
      rw [List.length_map] at hz
      exact hz
    · rw [e4]
      exact q _ d pm sr (I.hok.fresh hd)
end
end L2
namespace T1
open PySem PySem.Spec PyProof.Rows L2 TK BstM DatI
/-- [y for x in a list of ints if f]: test and value change nothing that stood there -/
theorem lc_fm {K : PySem.W.Frag} {a : Addr} {ns : List Int} {i : Nat} {tt : TT} {te : TE} {vs : List Nat} {σ : L2.St} {H1 : Hp} {D : Addr} {Qd : Hp → Prop} (f : Int → Bool) (y : Int → V)
    (hS : SqL K H1 a (ns.map V.int)) (nD : H1 D = none) (hl : ns.length ≤ 1000) (hw : ∀ x : V, wipe ((wipe σ vs).set i (some x)) vs = wipe σ vs)
    (ht : ∀ k G, k ∈ ns → Same H1 G → ∀ R : Bool → Hp → Prop, (∀ G', Same G G' → R (f k) G') → tt ((wipe σ vs).set i (some (.int k))) G R)
    (he : ∀ k G, k ∈ ns → f k = true → Same H1 G → ∀ R : V → Hp → Prop, (∀ G', Same G G' → R (y k) G') → te ((wipe σ vs).set i (some (.int k))) G R)
    (hd : ∀ G, Same H1 G → G D = some (.lst ((ns.filter f).map y)) → Qd G) :
    ∃ W : Nat → Nat → Hp → Prop, (∃ m, W 0 m (upd H1 D (.lst []))) ∧ ∀ j m H, W j m H →
      ((Itl K a).stop j H ∧ Qd H) ∨ ((Itl K a).go j H ∧ ∃ Nx : Hp → Prop, (∀ H', Nx H' → ∃ m', m' < m ∧ W (j + 1) m' H') ∧ ∀ x H', (Itl K a).yld j H x H' → gName i x (wipe σ vs) H' fun σ2 H2 => wipe σ2 vs = wipe σ vs ∧ tt σ2 H2 fun b H3 =>
        if b = true then te σ2 H3 fun y H4 => ∃ acc, H4 D = some (.lst acc) ∧ acc.length < sizeLine ∧ Nx (upd H4 D (.lst (acc ++ [y]))) else Nx H3) := by
  refine lc_list (xs := ns.map V.int) (fun j G => Same H1 G ∧ j ≤ ns.length ∧ G D = some (.lst (((ns.take j).filter f).map y))) ⟨same_upd nD, Nat.zero_le _, by rw [upd_same]; rfl⟩ (fun j G _ h => h.1.seq hS) (fun j x G hx h => ?_) (fun G h => ?_)
  · obtain ⟨sm, _, hD⟩ := h
    obtain ⟨hj, rfl⟩ := get_int hx
    have hts := take_snoc hj
    have hk := List.getElem_mem hj
    generalize ns[j] = k at hts hk
    refine ⟨hw _, ht k G hk sm _ fun G' s' => ?_⟩
    refine ite2 (fun e => ?_) (fun e => ?_)
    · refine he k G' hk e (sm.trans s') _ fun G2 s2 => ⟨_, s2 _ _ (s' _ _ hD), ?_, same_put (sm.trans (s'.trans s2)) nD, hj, ?_⟩
      · rw [List.length_map]
        have h1 := List.length_filter_le f (ns.take j)
        have h2 := List.length_take_le j ns
        exact small1000 (by omega)
      · rw [upd_same, hts, List.filter_append, List.map_append]
        simp [e]
    · refine ⟨sm.trans s', hj, ?_⟩
      rw [s' _ _ hD, hts, List.filter_append, List.map_append]
      simp [e]
  · obtain ⟨sm, _, hD⟩ := h
    rw [List.length_map, List.take_length] at hD
    exact hd G sm hD
theorem filter_all {l : List Int} : l.filter (fun _ => true) = l := List.filter_eq_self.mpr fun _ _ => rfl
/-- the keys that see a new one are its neighbours -/
theorem near_iff {pre : List Int} {k : Int} (hk : k ∉ pre) {nl : List Int}
    (h : (∀ m ∈ nl, (m ∈ pre.filter (fun o => decide (o < k)) ∧ ∀ y ∈ pre.filter (fun o => decide (o < k)), y ≤ m) ∨ (m ∈ pre.filter (fun o => decide (o > k)) ∧ ∀ y ∈ pre.filter (fun o => decide (o > k)), m ≤ y)))
    (h1 : ∀ o ∈ pre.filter (fun o => decide (o < k)), (∀ y ∈ pre.filter (fun o => decide (o < k)), y ≤ o) → o ∈ nl) (h2 : ∀ o ∈ pre.filter (fun o => decide (o > k)), (∀ y ∈ pre.filter (fun o => decide (o > k)), o ≤ y) → o ∈ nl) :
    ∀ o ∈ pre, (o ∈ nl ↔ clear pre k o = true) := by
  intro o ho
  have hne : o ≠ k := fun e => hk (e ▸ ho)
  rw [clear_iff]
  constructor
  · intro hm y hy hb
    have hyk : y ≠ k := fun e => hk (e ▸ hy)
    unfold btw at hb
    rcases h o hm with ⟨a, b⟩ | ⟨a, b⟩
    · have h3 := of_decide_eq_true (List.mem_filter.mp a).2
      have := b y
      by_cases c : y < k
      · have := b y (List.mem_filter.mpr ⟨hy, decide_eq_true c⟩)
        omega
      · omega
    · have h3 := of_decide_eq_true (List.mem_filter.mp a).2
      by_cases c : y > k
      · have := b y (List.mem_filter.mpr ⟨hy, decide_eq_true c⟩)
        omega
      · omega
  · intro hc
    rcases Int.lt_or_gt_of_ne hne with c | c
    · refine h1 o (List.mem_filter.mpr ⟨ho, decide_eq_true c⟩) fun y hy => ?_
      obtain ⟨hy1, hy2⟩ := List.mem_filter.mp hy
      have := hc y hy1
      have hy3 := of_decide_eq_true hy2
      unfold btw at this
      omega
    · refine h2 o (List.mem_filter.mpr ⟨ho, decide_eq_true c⟩) fun y hy => ?_
      obtain ⟨hy1, hy2⟩ := List.mem_filter.mp hy
      have := hc y hy1
      have hy3 := of_decide_eq_true hy2
      unfold btw at this
      omega
theorem lastClear_filter (all : List Int) (k : Int) (l : List Int) : (l.filter (fun o => clear all k o)).getLast? = lastClear all k l := by
  suffices H : ∀ l : List Int, (l.reverse.filter (fun o => clear all k o)).getLast? = lastClear all k l.reverse by
    have := H l.reverse
    rw [List.reverse_reverse] at this
    exact this
  intro l
  induction l with
  | nil => rfl
  | cons x l ih =>
    rw [List.reverse_cons, lastClear_snoc, List.filter_append]
    by_cases c : clear all k x = true
    · simp [c]
    · have e : [x].filter (fun o => clear all k o) = [] := by simp [c]
      rw [if_neg c, e, List.append_nil]
      exact ih
theorem paired_keepF {α β : Type} {F G : α → β → Prop} {P : α → Prop} : ∀ {l : List α} {m : List β}, (∀ t ∈ l, P t) → Paired F l m → (∀ a b, P a → F a b → G a b) → Paired G l m
  | _, _, _, .nil, _ => .nil
  | _, _, h, .cons r t, k => .cons (k _ _ (h _ List.mem_cons_self) r) (paired_keepF (fun t ht => h t (List.mem_cons_of_mem _ ht)) t k)
theorem inj_of_nodup {α : Type} {f : α → Int} : ∀ {l : List α}, (l.map f).Nodup → ∀ t ∈ l, ∀ u ∈ l, f t = f u → t = u
  | x :: l, h, t, ht, u, hu, e => by
    rw [List.map_cons, List.nodup_cons] at h
    rcases List.mem_cons.mp ht with h1 | h1
    · rcases List.mem_cons.mp hu with h2 | h2
      · rw [h1, h2]
      · exact absurd (List.mem_map.mpr ⟨u, h2, by rw [← e, h1]⟩) h.1
    · rcases List.mem_cons.mp hu with h2 | h2
      · exact absurd (List.mem_map.mpr ⟨t, h1, by rw [e, h2]⟩) h.1
      · exact inj_of_nodup h.2 t h1 u h2 e
/-- the key of a pair -/
def keyAt (G : Hp) (t : Addr) : Int := match G t with | some (.tup (.int k :: _)) => k | _ => 0
theorem keyAt_eq {G : Hp} {t : Addr} {k : Int} {l : List V} (h : G t = some (.tup (.int k :: l))) : keyAt G t = k := by unfold keyAt; rw [h]
theorem paired_of_map {α β : Type} {F : α → β → Prop} {g : α → β} : ∀ {us : List α}, (∀ u ∈ us, F u (g u)) → Paired F us (us.map g)
  | [], _ => .nil
  | u :: us, h => .cons (h u List.mem_cons_self) (paired_of_map fun v hv => h v (List.mem_cons_of_mem _ hv))
theorem paired_mem {α β : Type} {F : α → β → Prop} {ts : List α} {ns : List β} (h : Paired F ts ns) {t : α} (ht : t ∈ ts) : ∃ (i : Nat) (k : β), ts[i]? = some t ∧ ns[i]? = some k ∧ F t k := by
  obtain ⟨i, hi⟩ := List.mem_iff_getElem?.mp ht
  obtain ⟨k, hk, hf⟩ := paired_get h hi
  exact ⟨i, k, hi, hk, hf⟩
theorem keys_map {G : Hp} {f : Int → V} : ∀ {ts : List Addr} {ns : List Int}, Paired (fun t k => G t = some (.tup [.int k, f k])) ts ns → ts.map (keyAt G) = ns
  | _, _, .nil => rfl
  | _, _, .cons r t => by rw [List.map_cons, keyAt_eq r, keys_map t]
end T1
namespace T1
open PySem PySem.Spec PyProof.Rows L2 TK BstM DatI
def spSmaller (K : PySem.W.Frag) : Sp := fun vs H Q _ => ∃ (a : Addr) (l : List Int) (k : Int), vs = [.ref a, .int k] ∧ SqL K H a (l.map V.int) ∧ l.length ≤ 1000 ∧ ∀ H' b, Same H H' → H b = none → H' b = some (.lst ((l.filter fun j => decide (j < k)).map V.int)) → Q (.ref b) H'
def spFreeA : Sp := fun vs H Q _ => ∃ (p a : Addr) (ns ms l : List Int) (k : Int), vs = [.ref p, .ref a, .int k] ∧ TreeOf H p ns ms ∧ H a = some (.lst (l.map V.int)) ∧ l.length ≤ 40 ∧ ∀ H' b, Same H H' → H b = none → H' b = some (.lst (((l.filter fun j => decide (j ≠ k)) ++ ms.filter fun j => decide (parentIn ns.reverse j = some k)).map V.int)) → Q (.ref b) H'
/-- what is chosen of a number -/
def spShare : Sp := fun vs H Q _ => ∃ (d a b : Addr) (c : Nat) (g : Int → Nat) (ms fr ch : List Int), vs = [.int ((c : Nat) : Int), .ref d, .ref a, .ref b] ∧ H d = some (.dK (dS g ms)) ∧ H a = some (.lst (fr.map V.int)) ∧ H b = some (.lst (ch.map V.int)) ∧ (∀ k ∈ fr, k ∈ ms) ∧ (∀ k ∈ ch, k ∈ ms) ∧ (∀ k ∈ ms, g k ≤ 40) ∧ fr.length ≤ 40 ∧ ch.length ≤ 40 ∧ c < 2 ^ 300 ∧ 0 < sumN fr g ∧
  ∀ H', Same H H' → Q (.int ((c * sumN ch g / sumN fr g : Nat) : Int)) H'
/-- the order with a number -/
def spOrdW : Sp := fun vs H Q _ => ∃ (p d : Addr) (ns ms : List Int) (r : Nat), vs = [.ref p, .ref d, .int ((r : Nat) : Int)] ∧ TreeOf H p ns ms ∧ H d = some (.dK (dS (sz ns) ms)) ∧ r < cntO ns ∧ ∀ H' b s, Same H H' → H b = none → H' b = some (.lst (s.map V.int)) → Go ns s [] → rank ns s [] = r → Q (.ref b) H'
def spOrdAt : Sp := fun vs H Q _ => ∃ (p : Addr) (ns ms : List Int) (r : Nat), vs = [.ref p, .int ((r : Nat) : Int)] ∧ TreeOf H p ns ms ∧ r < cntO ns ∧ ∀ H' b s, Same H H' → H b = none → H' b = some (.lst (s.map V.int)) → Go ns s [] → rank ns s [] = r → Q (.ref b) H'
def spNumOf : Sp := fun vs H Q _ => ∃ (a : Addr) (os : List Int), vs = [.ref a] ∧ H a = some (.lst (os.map V.int)) ∧ Order os ∧ ∀ H', Same H H' → Q (.int ((rank os os [] : Nat) : Int)) H'
/-- the value of the next order -/
def NextV (G : Hp) (os : List Int) (v : V) : Prop := (v = .non ∧ rank os os [] + 1 = cntO os) ∨ ∃ b s, v = .ref b ∧ G b = some (.lst (s.map V.int)) ∧ Go os s [] ∧ rank os s [] = rank os os [] + 1
def spNext : Sp := fun vs H Q _ => ∃ (a : Addr) (os : List Int), vs = [.ref a] ∧ H a = some (.lst (os.map V.int)) ∧ Order os ∧ ∀ H' v, Same H H' → NextV H' os v → Q v H'
theorem cntO_ext {ns : List Int} (hn : ns.Nodup) : cntO ns = ext ns ns.length [] := by
  have h := ext_eq hn (Closed.nil (os := ns))
  have e : rem ns [] = ns := by
    unfold rem
    exact List.filter_eq_self.mpr fun k _ => by simp
  rw [e] at h
  unfold cntO
  rw [h]
theorem rank_cnt {ns s : List Int} (hn : ns.Nodup) (h : Go ns s []) : rank ns s [] < cntO ns := by
  have h1 := rank_lt hn h
  have h2 := go_len hn h
  have e : rem ns [] = ns := by
    unfold rem
    exact List.filter_eq_self.mpr fun k _ => by simp
  rw [e] at h2
  rw [← h2, ← cntO_ext hn] at h1
  exact h1
/-- the shares of the chosen ones -/
theorem share_sum {ns f l ch : List Int} (hn : ns.Nodup) (c : Closed ns f) {m : Nat} (hm : (rem ns f).length = m + 1) (hl : l.Perm (free ns f)) (hc : ∀ k ∈ ch, k ∈ free ns f) :
    ext ns (m + 1) f * sumN ch (sz ns) / sumN l (sz ns) = sumN ch fun k => ext ns m (k :: f) := by
  rw [sumN_perm hl, sizes_free c hn, hm]
  have : ext ns (m + 1) f * sumN ch (sz ns) = sumN ch (fun k => ext ns m (k :: f)) * (m + 1) := by
    rw [← sumN_mul, Nat.mul_comm, ← sumN_mul]
    refine sumN_congr fun k hk => ?_
    rw [Nat.mul_comm, share_eq hn c hm (hc k hk)]
  rw [this, Nat.mul_div_cancel _ (by omega)]
theorem sum_pos {ns f l : List Int} (hn : ns.Nodup) (c : Closed ns f) {m : Nat} (hm : (rem ns f).length = m + 1) (hl : l.Perm (free ns f)) : 0 < sumN l (sz ns) := by
  rw [sumN_perm hl, sizes_free c hn, hm]
  omega
theorem par_ne {ns : List Int} (hn : ns.Nodup) {k x : Int} (hk : k ∈ ns) (h : parentIn ns.reverse k = some x) : k ≠ x := by
  rw [parentIn_eq] at h
  have d1 := dep_eq _ (rev_nodup hn) k (List.mem_reverse.mpr hk)
  rw [h] at d1
  simp only at d1
  intro e
  rw [e] at d1
  omega
theorem free_step {ns ms f l : List Int} (hn : ns.Nodup) (ha : Asc ms ns) (c : Closed ns f) (hl : l.Perm (free ns f)) {k : Int} (hk : k ∈ free ns f) :
    ((l.filter fun j => decide (j ≠ k)) ++ ms.filter fun j => decide (parentIn ns.reverse j = some k)).Perm (free ns (k :: f)) := by
  have hmn : ms.Nodup := ha.1.nodup_iff.mpr hn
  have hln : l.Nodup := hl.nodup_iff.mpr (free_nodup hn)
  have pe : ∀ j, parentIn ns.reverse j = par ns j := fun j => parentIn_eq _ _
  obtain ⟨k1, k2, k3⟩ := mem_free.mp hk
  refine (List.perm_ext_iff_of_nodup ?_ (free_nodup hn)).mpr fun j => ?_
  · rw [List.nodup_append]
    refine ⟨hln.sublist List.filter_sublist, hmn.sublist List.filter_sublist, fun a h1 b h2 e => ?_⟩
    subst e
    obtain ⟨h3, _⟩ := List.mem_filter.mp h1
    obtain ⟨_, h4⟩ := List.mem_filter.mp h2
    have h5 := (mem_free.mp (hl.mem_iff.mp h3)).2.2
    have h6 := of_decide_eq_true h4
    rw [pe] at h6
    exact k2 (ok_iff.mp h5 k h6)
  · rw [List.mem_append, mem_free]
    constructor
    · rintro (h | h)
      · obtain ⟨h1, h2⟩ := List.mem_filter.mp h
        obtain ⟨a1, a2, a3⟩ := mem_free.mp (hl.mem_iff.mp h1)
        have hne : j ≠ k := of_decide_eq_true h2
        refine ⟨a1, fun z => ?_, ok_iff.mpr fun m e => List.mem_cons_of_mem _ (ok_iff.mp a3 m e)⟩
        rcases List.mem_cons.mp z with z | z
        · exact hne z
        · exact a2 z
      · obtain ⟨h1, h2⟩ := List.mem_filter.mp h
        have h3 := of_decide_eq_true h2
        rw [pe] at h3
        have hjo : j ∈ ns := (asc_mem ha j).mp h1
        refine ⟨hjo, fun z => ?_, ok_iff.mpr fun m e => ?_⟩
        · rcases List.mem_cons.mp z with z | z
          · have := (par_ne hn hjo (by rw [pe]; exact h3))
            exact this z
          · exact k2 (c.up j z k h3)
        · rw [h3] at e
          cases e
          exact List.mem_cons_self
    · rintro ⟨a1, a2, a3⟩
      have hjf : j ∉ f := fun z => a2 (List.mem_cons_of_mem _ z)
      have hjk : j ≠ k := fun z => a2 (by rw [z]; exact List.mem_cons_self)
      by_cases e : par ns j = some k
      · exact .inr (List.mem_filter.mpr ⟨(asc_mem ha j).mpr a1, decide_eq_true (by rw [pe]; exact e)⟩)
      · refine .inl (List.mem_filter.mpr ⟨hl.mem_iff.mpr (mem_free.mpr ⟨a1, hjf, ok_iff.mpr fun m em => ?_⟩), decide_eq_true hjk⟩)
        rcases List.mem_cons.mp (ok_iff.mp a3 m em) with z | z
        · rw [z] at em
          exact absurd em e
        · exact z
theorem free_start {ns ms : List Int} (hn : ns.Nodup) (ha : Asc ms ns) : (under (pairsOf ns ms) [.non]).Perm (free ns []) := by
  rw [under_pairs]
  have hmn : ms.Nodup := ha.1.nodup_iff.mpr hn
  refine (List.perm_ext_iff_of_nodup (hmn.sublist List.filter_sublist) (free_nodup hn)).mpr fun j => ?_
  rw [List.mem_filter, mem_free, inV_none, decide_eq_true_iff, asc_mem ha j, parentIn_eq]
  constructor
  · rintro ⟨h1, h2⟩
    exact ⟨h1, fun z => (nomatch z), ok_iff.mpr fun m e => by rw [show par ns j = none from h2] at e; cases e⟩
  · rintro ⟨h1, _, h3⟩
    refine ⟨h1, ?_⟩
    cases e : (placeOf ns.reverse j).1 with
    | none => rfl
    | some m => exact (nomatch ok_iff.mp h3 m e)
theorem under_one (ns ms : List Int) (k : Int) : under (pairsOf ns ms) [.int k] = ms.filter fun j => decide (parentIn ns.reverse j = some k) := by
  rw [under_pairs]
  refine List.filter_congr fun j _ => ?_
  have := inV_ints (parentIn ns.reverse j) [k]
  rw [show ([k].map V.int) = [V.int k] from rfl] at this
  rw [this]
  cases parentIn ns.reverse j with
  | none => rfl
  | some m => simp
theorem sum_dS (g : Int → Nat) : ∀ l : List Int, (l.map fun k => ((g k : Nat) : Int)).sum = ((sumN l g : Nat) : Int)
  | [] => rfl
  | x :: l => by rw [List.map_cons, List.sum_cons, sum_dS g l, sumN_cons]; omega
theorem sumN_bound {g : Int → Nat} : ∀ {l : List Int}, (∀ k ∈ l, g k ≤ 40) → sumN l g ≤ 40 * l.length
  | [], _ => Nat.le_refl _
  | x :: l, h => by
    rw [sumN_cons, List.length_cons]
    have h1 := h x List.mem_cons_self
    have h2 := sumN_bound (l := l) fun k hk => h k (List.mem_cons_of_mem _ hk)
    omega
theorem ext_bits {ns f : List Int} (hn : ns.Nodup) (hl : ns.length ≤ 40) (c : Closed ns f) : ext ns (rem ns f).length f < 2 ^ 300 := by
  rw [ext_eq hn c]
  have h1 : (rem ns f).length ≤ 40 := Nat.le_trans (List.length_filter_le _ _) hl
  have h2 : fact (rem ns f).length ≤ fact 40 := fact_mono h1
  have h3 : fact 40 < 2 ^ 300 := by decide +kernel
  have h4 := Nat.div_le_self (fact (rem ns f).length) (prodN (rem ns f) (sz ns))
  omega
theorem step_low {ns f l : List Int} (hn : ns.Nodup) (c : Closed ns f) {m : Nat} (hm : (rem ns f).length = m + 1) (hl : l.Perm (free ns f)) (k : Int) :
    ext ns (m + 1) f * sumN (l.filter fun j => decide (j < k)) (sz ns) / sumN l (sz ns) = low (free ns f) (fun j => ext ns m (j :: f)) k := by
  rw [share_sum hn c hm hl fun j hj => hl.mem_iff.mp (List.mem_filter.mp hj).1]
  exact low_perm hl _ k
theorem step_one {ns f l : List Int} (hn : ns.Nodup) (c : Closed ns f) {m : Nat} (hm : (rem ns f).length = m + 1) (hl : l.Perm (free ns f)) {k : Int} (hk : k ∈ free ns f) :
    ext ns (m + 1) f * sumN [k] (sz ns) / sumN l (sz ns) = ext ns m (k :: f) := by
  rw [share_sum hn c hm hl fun j hj => by rw [List.mem_singleton.mp hj]; exact hk, sumN_cons]
  rfl
theorem free_len {ns f l : List Int} (h : ns.length ≤ 40) (hl : l.Perm (free ns f)) : l.length ≤ 40 := by
  rw [hl.length_eq]
  unfold free
  have h1 := List.length_filter_le (fun k => okParent f (par ns k)) (rem ns f)
  have h2 : (rem ns f).length ≤ ns.length := List.length_filter_le _ _
  omega
theorem free_in {ns f l : List Int} (hl : l.Perm (free ns f)) : ∀ k ∈ l, k ∈ ns := fun k hk => (mem_free.mp (hl.mem_iff.mp hk)).1
end T1
namespace T1
open PySem PySem.Spec PyProof.Rows L2 TK BstM DatI
/-- the order of lists of whole numbers -/
def ltB (a b : List Int) : Bool := PySem.W.listLt a b
theorem ltB_iff : ∀ (a b : List Int), ltB a b = true ↔ ltI a b
  | [], [] => ⟨(fun h => by cases h), fun h => h.elim⟩
  | [], _ :: _ => ⟨fun _ => trivial, fun _ => rfl⟩
  | _ :: _, [] => ⟨(fun h => by cases h), fun h => h.elim⟩
  | x :: a, y :: b => by
    unfold ltB
    rw [PySem.W.listLt]
    show _ ↔ x < y ∨ (x = y ∧ ltI a b)
    by_cases e : x = y
    · rw [if_pos e]
      refine (ltB_iff a b).trans ⟨fun h => .inr ⟨e, h⟩, fun h => ?_⟩
      rcases h with h | h
      · omega
      · exact h.2
    · rw [if_neg e]
      show decide (x < y) = true ↔ _
      rw [decide_eq_true_iff]
      exact ⟨fun h => .inl h, fun h => h.elim id fun z => absurd z.1 e⟩
theorem depthAll_ints : ∀ ns : List Int, PyData.depthAll (ns.map PyData.int) ≤ 1
  | [] => by simp [PyData.depthAll]
  | x :: ns => by
    have := depthAll_ints ns
    rw [List.map_cons, PyData.depthAll, PyData.depth]
    omega
theorem lt_lists (a b : List Int) : PySem.W.dataLt (.list (a.map PyData.int)) (.list (b.map PyData.int)) = ltB a b := PySem.W.DatumOrd.lt_eq a b
def rGtL (K : PySem.W.Frag) : R2 := fun x y H Q => ∃ a b ns ms, x = .ref a ∧ y = .ref b ∧ SqL K H a (ns.map V.int) ∧ SqL K H b (ms.map V.int) ∧ Q (.bl (ltB ms ns)) H
theorem op_gtL {X : Cx} {K : PySem.W.Frag} (h : X.K = K) (hu : X.A.units + 64 < cLine) : OpR X (compareOp .Gt) (rGtL K) := by
  subst h
  intro pins s σ H x y v u Q I rx ry h
  obtain ⟨a, b, ns, ms, rfl, rfl, ha, hb, q⟩ := h
  obtain ⟨as, r1⟩ := Dp.reads I _ _ v (dp_ints ha) rx
  obtain ⟨bs, r2⟩ := Dp.reads I _ _ u (dp_ints hb) ry
  refine PySem.W.gt_data r1 r2 (PySem.W.DatumOrd.alike ns ms) (fun e => by cases e) ?_ ⟨.bl _, H, I, rfl, ?_⟩
  · have h1 := depthAll_ints ns
    have h2 : PyData.depth (.list (ns.map PyData.int)) ≤ 2 := by
      rw [PyData.depth]
      omega
    have h3 := Nat.min_le_left (PyData.depth (.list (ns.map PyData.int))) (PyData.depth (.list (ms.map PyData.int)))
    omega
  · rw [lt_lists]
    exact q
def rLtL (K : PySem.W.Frag) : R2 := fun x y H Q => ∃ a b ns ms, x = .ref a ∧ y = .ref b ∧ SqL K H a (ns.map V.int) ∧ SqL K H b (ms.map V.int) ∧ Q (.bl (ltB ns ms)) H
theorem op_ltL {X : Cx} {K : PySem.W.Frag} (h : X.K = K) (hu : X.A.units + 64 < cLine) : OpR X (compareOp .Lt) (rLtL K) := by
  subst h
  intro pins s σ H x y v u Q I rx ry h
  obtain ⟨a, b, ns, ms, rfl, rfl, ha, hb, q⟩ := h
  obtain ⟨as, r1⟩ := Dp.reads I _ _ v (dp_ints ha) rx
  obtain ⟨bs, r2⟩ := Dp.reads I _ _ u (dp_ints hb) ry
  refine PySem.W.lt_data r1 r2 (PySem.W.DatumOrd.alike ns ms) (fun e => by cases e) ?_ ⟨.bl _, H, I, rfl, ?_⟩
  · have h1 := depthAll_ints ns
    have h2 : PyData.depth (.list (ns.map PyData.int)) ≤ 2 := by
      rw [PyData.depth]
      omega
    have h3 := Nat.min_le_left (PyData.depth (.list (ns.map PyData.int))) (PyData.depth (.list (ms.map PyData.int)))
    omega
  · rw [lt_lists]
    exact q
/-- [s for s in lists if f(s)] -/
theorem lc_lists {K : PySem.W.Frag} {a : Addr} {as : List Addr} {ls : List (List Int)} {i : Nat} {tt : TT} {vs : List Nat} {σ : L2.St} {H1 : Hp} {D : Addr} {Qd : Hp → Prop} (f : List Int → Bool)
    (hS : H1 a = some (.lst (as.map V.ref))) (hL : ListsAt H1 as ls) (nD : H1 D = none) (hl : ls.length ≤ 1000) (hw : ∀ x : V, wipe ((wipe σ vs).set i (some x)) vs = wipe σ vs)
    (ht : ∀ q s G, s ∈ ls → G q = some (.lst (s.map V.int)) → Same H1 G → ∀ R : Bool → Hp → Prop, (∀ G', Same G G' → R (f s) G') → tt ((wipe σ vs).set i (some (.ref q))) G R)
    (te : TE) (he : ∀ q G (R : V → Hp → Prop), R (.ref q) G → te ((wipe σ vs).set i (some (.ref q))) G R)
    (hd : ∀ G bs, Same H1 G → G D = some (.lst (bs.map V.ref)) → ListsAt G bs (ls.filter f) → Qd G) :
    ∃ W : Nat → Nat → Hp → Prop, (∃ m, W 0 m (upd H1 D (.lst []))) ∧ ∀ j m H, W j m H →
      ((Itl K a).stop j H ∧ Qd H) ∨ ((Itl K a).go j H ∧ ∃ Nx : Hp → Prop, (∀ H', Nx H' → ∃ m', m' < m ∧ W (j + 1) m' H') ∧ ∀ x H', (Itl K a).yld j H x H' → gName i x (wipe σ vs) H' fun σ2 H2 => wipe σ2 vs = wipe σ vs ∧ tt σ2 H2 fun b H3 =>
        if b = true then te σ2 H3 fun y H4 => ∃ acc, H4 D = some (.lst acc) ∧ acc.length < sizeLine ∧ Nx (upd H4 D (.lst (acc ++ [y]))) else Nx H3) := by
  refine lc_list (xs := as.map V.ref) (fun j G => Same H1 G ∧ ∃ bs : List Addr, G D = some (.lst (bs.map V.ref)) ∧ ListsAt H1 bs ((ls.take j).filter f)) ⟨same_upd nD, [], upd_same, .nil⟩ (fun j G _ h => SqL.of (h.1 _ _ hS)) (fun j x G hx h => ?_) (fun G h => ?_)
  · obtain ⟨sm, bs, hD, hbs⟩ := h
    rw [List.getElem?_map] at hx
    obtain ⟨q, hq, rfl⟩ := Option.map_eq_some_iff.mp hx
    obtain ⟨sq, hsq, hq1⟩ := paired_get hL hq
    have hj : j < ls.length := (List.getElem?_eq_some_iff.mp hsq).1
    have hts := take_snocA hj
    rw [(List.getElem?_eq_some_iff.mp hsq).2] at hts
    have hmem : sq ∈ ls := List.mem_of_getElem? hsq
    refine ⟨hw _, ht q sq G hmem (sm _ _ hq1) sm _ fun G' s' => ?_⟩
    refine ite2 (fun e => ?_) (fun e => ?_)
    · refine he _ _ _ ⟨_, s' _ _ hD, ?_, same_put (sm.trans s') nD, bs ++ [q], ?_, ?_⟩
      · rw [List.length_map, Paired.length hbs]
        have h1 := List.length_filter_le f (ls.take j)
        have h2 := List.length_take_le j ls
        exact small1000 (by omega)
      · rw [upd_same, List.map_append]
        rfl
      · rw [hts, List.filter_append]
        refine paired_app hbs ?_
        simp only [List.filter_cons, e, if_true, List.filter_nil]
        exact .cons hq1 .nil
    · refine ⟨sm.trans s', bs, s' _ _ hD, ?_⟩
      rw [hts, List.filter_append]
      simp only [List.filter_cons, e, List.filter_nil]
      rw [if_neg (by simp), List.append_nil]
      exact hbs
  · obtain ⟨sm, bs, hD, hbs⟩ := h
    rw [List.length_map, Paired.length hL, List.take_length] at hbs
    exact hd G bs sm hD (hbs.keep sm)
end T1
namespace T1
open PySem PySem.Spec PyProof.Rows L2 TK BstM DatI
/-- sorted(xs), xs a list of lists of whole numbers, which stand ascending -/
def rSortedLL (K : PySem.W.Frag) : List V → Hp → VK → Prop := fun vs H Q => ∃ (a : Addr) (ts : List (Addr × List Int)), vs = [V.ref a] ∧ SqL K H a (ts.map fun t => V.ref t.1) ∧ (∀ t ∈ ts, H t.1 = some (.lst (t.2.map V.int))) ∧ ts.Pairwise (fun t u => ltB u.2 t.2 = false) ∧
  ∀ p, H p = none → Q (.ref p) (upd H p (.lst (ts.map fun t => V.ref t.1)))
def encL (t : Addr × List Int) : PyData := .list (t.2.map PyData.int)
theorem le_encL : PySem.W.dataLe false encL = fun t u => !ltB u.2 t.2 := by
  funext t u
  rw [PySem.W.dataLe_eq]
  show (!PySem.W.dataLt (encL u) (encL t)) = _
  rw [show PySem.W.dataLt (encL u) (encL t) = ltB u.2 t.2 from lt_lists _ _]
theorem eachIs_refs {h : Heap} {R : Value → (Addr × List Int) → Prop} : ∀ {us : List Value} {ts : List (Addr × List Int)}, Vals (ts.map fun t => V.ref t.1) us → (∀ t ∈ ts, R (.ref t.1) t) → PySem.W.EachIs R us ts
  | _, [], r, _ => by
    cases r
    exact .nil
  | _, t :: ts, r, h => by
    cases r with
    | cons r1 r2 =>
      cases r1
      exact .cons (h t List.mem_cons_self) (eachIs_refs (h := ‹Heap›) r2 fun u hu => h u (List.mem_cons_of_mem _ hu))
theorem vals_each : ∀ {us : List Value} {ts : List (Addr × List Int)}, PySem.W.EachIs (fun v t => v = .ref t.1) us ts → Vals (ts.map fun t => V.ref t.1) us
  | _, [], h => by
    cases h
    exact .nil
  | _, t :: ts, h => by
    cases h with
    | cons h1 h2 =>
      subst h1
      exact .cons rfl (vals_each h2)
theorem cr_sortedLL {X : Cx} {K : PySem.W.Frag} (h : X.K = K) (hu : X.A.units + 64 < cLine) : CallR X (.builtin "sorted") (rSortedLL K) := by
  subst h
  intro pins s σ H vs us Q I r h
  obtain ⟨a, ts, rfl, hs, hx, hi, q⟩ := h
  obtain ⟨its, rv, hl, hz⟩ := I.list hs
  obtain ⟨u, rfl, ru⟩ := vals1 r
  obtain rfl : u = Value.ref a := ru
  have el : ts.length = its.length := by
    have := rv.length
    rw [List.length_map] at this
    exact this
  refine PySem.W.sorted_data (R := fun v t => v = .ref t.1) (bs := ts) (enc := encL) hl.isList (eachIs_refs (h := s.heap) rv fun t _ => rfl) (eachIs_refs (h := s.heap) rv fun t ht => ?_) ?_ ?_ ?_ (fun t ht => ?_) fun out ho he => ?_
  · exact Dp.reads I _ _ _ (dp_ints (SqL.of (hx t ht))) rfl
  · exact PySem.W.AllAlike.of fun t u => PySem.W.DatumOrd.alike t.2 u.2
  · exact PySem.W.Sortable.others fun t => ⟨(fun e => by cases e), fun xs e => by cases e⟩
  · rw [List.length_map] at hz
    exact hz
  · have h1 := depthAll_ints t.2
    have h2 : PyData.depth (encL t) ≤ 2 := by
      unfold encL
      rw [PyData.depth]
      omega
    omega
  · rw [List.mergeSort_of_pairwise (by rw [le_encL]; exact hi.imp fun {t u} h => by show (!ltB u.2 t.2) = true; rw [h]; rfl)] at he
    refine ⟨.ref (s.heap.objs.size + 1), upd H (s.heap.objs.size + 1) (.lst (ts.map fun t => V.ref t.1)), I.laid (t' := s.toks) (fun b o e => sortedAll_old e) (Nat.le_succ _) ⟨hz, out, ?_⟩, rfl, q _ (I.hok.fresh (Nat.le_succ _))⟩
    obtain ⟨n, hn⟩ := sortedAll_at s.heap its out.toArray
    exact ⟨n, vals_each he, hn⟩
theorem canLay_encL : ∀ ts : List (Addr × List Int), PyData.canLayAll0 (ts.map encL) = true
  | [] => by simp [PyData.canLayAll0]
  | t :: ts => by
    rw [List.map_cons, PyData.canLayAll0, canLay_encL ts]
    unfold encL
    rw [PyData.canLay0, canLay_ints]
    rfl
theorem depth_encL : ∀ ts : List (Addr × List Int), PyData.depthAll (ts.map encL) ≤ 2
  | [] => by simp [PyData.depthAll]
  | t :: ts => by
    have h1 := depthAll_ints t.2
    have h2 := depth_encL ts
    rw [List.map_cons, PyData.depthAll]
    unfold encL at h2 ⊢
    rw [PyData.depth]
    omega
theorem shaped_lists (ts : List (Addr × List Int)) : SeqAt.shaped (.list (ts.map encL)) = true := by
  unfold SeqAt.shaped
  rw [Bool.and_eq_true]
  refine ⟨?_, ?_⟩
  · rw [PyData.canLay0]
    exact canLay_encL ts
  · have := depth_encL ts
    rw [PyData.depth]
    exact decide_eq_true (by omega)
theorem dpAll_lists {K : PySem.W.Frag} {H : Hp} : ∀ ts : List (Addr × List Int), (∀ t ∈ ts, H t.1 = some (.lst (t.2.map V.int))) → DpAll K H (ts.map fun t => V.ref t.1) (ts.map encL)
  | [], _ => .nil
  | t :: ts, h => .cons (dp_ints (SqL.of (h t List.mem_cons_self))) (dpAll_lists ts fun u hu => h u (List.mem_cons_of_mem _ hu))
theorem dp_lists {K : PySem.W.Frag} {H : Hp} {a : Addr} {ts : List (Addr × List Int)} (h : SqL K H a (ts.map fun t => V.ref t.1)) (ht : ∀ t ∈ ts, H t.1 = some (.lst (t.2.map V.int))) : Dp K H (.ref a) (.list (ts.map encL)) := .lst h (dpAll_lists ts ht)
theorem eqv_encL : ∀ ts : List (Addr × List Int), PyData.eqvAll (ts.map encL) (ts.map encL) = true
  | [] => by simp [PyData.eqvAll]
  | t :: ts => by
    rw [List.map_cons, PyData.eqvAll, eqv_encL ts]
    unfold encL
    rw [eqv_ints, decide_eq_true rfl]
    rfl
theorem eqv_lists (ts : List (Addr × List Int)) : PyData.eqv (.list (ts.map encL)) (.list (ts.map encL)) = true := by
  rw [PyData.eqv]
  exact eqv_encL ts
theorem sto_go {os ms : List Int} (ho : os.Nodup) (hp : ms.Perm os) (hl : Later os.reverse ms.reverse) : Go os ms [] := by
  refine later_go ho ?_ ?_
  · rw [List.append_nil]
    exact (List.reverse_perm ms).trans hp
  · rw [List.append_nil]
    exact (laterB_iff _).mpr hl
end T1
namespace T1
open PySem PySem.Spec PyProof.Rows L2 TK BstM DatI
/-- ascending keys, all of them different and in the range -/
structure KeysA (ks : List Int) : Prop where
  asc : ks.Pairwise (· < ·)
  rng : ∀ k ∈ ks, InR k
  len : ks.length ≤ 40
/-- nothing is out of order -/
def spAscU (K : PySem.W.Frag) : Sp := fun vs H Q _ => ∃ (a : Addr) (ks : List Int) (lo hi : Int), vs = [.ref a, .int lo, .int hi] ∧ SqL K H a (ks.map V.int) ∧ ks.Pairwise (· < ·) ∧ (∀ k ∈ ks, lo ≤ k ∧ k ≤ hi) ∧ ks.length ≤ 1000 ∧ ∀ H', Same H H' → Q (.int ((ks.length : Nat) : Int)) H'
def spChkKeys (K : PySem.W.Frag) : Sp := fun vs H Q _ => ∃ (a : Addr) (ks : List Int), vs = [.ref a] ∧ H a = some (.lst (ks.map V.int)) ∧ KeysA ks ∧ ∀ H', Same H H' → Q .non H'
def spChkNew (K : PySem.W.Frag) : Sp := fun vs H Q _ => ∃ (a b : Addr) (ks os : List Int), vs = [.ref a, .ref b] ∧ SqL K H a (ks.map V.int) ∧ SqL K H b (os.map V.int) ∧ (∀ k ∈ os, k ∉ ks) ∧ ∀ H', Same H H' → Q .non H'
end T1
namespace T1
open PySem PySem.Spec PyProof.Rows L2 TK BstM DatI
theorem seqT_keep {K : PySem.W.Frag} {H H' : Hp} {a : Addr} {xs : List V} (e : Same H H') (h : SqT K H a xs) : SqT K H' a xs := by
  rcases h with (k | ⟨ob, k⟩) | k
  · exact .inl (.inl (e _ _ k))
  · exact .inl (.inr ⟨ob, e _ _ k⟩)
  · exact .inr k
mutual
theorem dp_keep {K : PySem.W.Frag} {H H' : Hp} (s : Same H H') : ∀ (d : PyData) (v : V), Dp K H v d → Dp K H' v d
  | .none, _, h => by cases h; exact .non
  | .bool b, _, h => by cases h; exact .bl b
  | .int i, _, h => by cases h; exact .int i
  | .str x, _, h => by cases h; exact .str x
  | .list ds, _, h => by
    cases h with
    | lst hs ha => exact .lst (s.seq hs) (dpAll_keep s ds _ ha)
  | .tuple ds, _, h => by
    cases h with
    | tup hs ha => exact .tup (seqT_keep s hs) (dpAll_keep s ds _ ha)
  | .dict _, _, h => by cases h
theorem dpAll_keep {K : PySem.W.Frag} {H H' : Hp} (s : Same H H') : ∀ (ds : List PyData) (vs : List V), DpAll K H vs ds → DpAll K H' vs ds
  | [], _, h => by cases h; exact .nil
  | d :: ds, _, h => by
    cases h with
    | cons h1 h2 => exact .cons (dp_keep s d _ h1) (dpAll_keep s ds _ h2)
end
theorem WithAns.keep {K : PySem.W.Frag} {H H' : Hp} {lo hi : Int} {x : V} {b : Bool} (h : WithAns K H lo hi x b) (s : Same H H') : WithAns K H' lo hi x b := by
  cases h with
  | int i => exact .int i
  | bl c => exact .bl c
  | other h k => exact .other (TyX.keep h s) k
theorem Rp.keep {K : PySem.W.Frag} {H H' : Hp} {v : V} {t : Str} (h : Rp K H v t) (s : Same H H') : Rp K H' v t := by
  cases h with
  | int i h => exact .int i h
  | bl b => exact .bl b
  | non => exact .non
  | str x h h5 => exact .str x h h5
  | dat a d h h1 h2 h3 h4 h5 => exact .dat a d (dp_keep s _ _ h) h1 h2 h3 h4 h5
/-- the same tree -/
def sameQ (os s : List Int) : Bool := decide (∀ k ∈ s, (placeOf s.reverse k).1 = (placeOf os.reverse k).1)
theorem pairs_sameQ {os s ms ms' : List Int} (ho : os.Nodup) (hm : Asc ms os) (hs : s.Perm os) (hm' : Asc ms' s) : decide (pairsOf s ms' = pairsOf os ms) = sameQ os s := by
  have e : ms' = ms := asc_unique ho ⟨hm'.1.trans hs, hm'.2⟩ hm
  subst e
  unfold sameQ
  rw [decide_eq_decide]
  unfold pairsOf
  constructor
  · intro h k hk
    have := List.map_inj_left.mp h k ((asc_mem hm' k).mpr hk)
    rw [← parentIn_eq, ← parentIn_eq]
    exact congrArg Prod.snd this
  · intro h
    refine List.map_congr_left fun k hk => ?_
    rw [parentIn_eq, parentIn_eq, h k ((asc_mem hm' k).mp hk)]
theorem sameQ_go {os s : List Int} (hn : os.Nodup) (hs : s.Perm os) : sameQ os s = true ↔ Go os s [] := by
  unfold sameQ
  rw [decide_eq_true_iff, go_iff hn]
  exact ⟨fun h => ⟨hs, h⟩, fun h => h.2⟩
theorem order_go {os s : List Int} (ho : Order os) (h : Go os s []) : Order s := by
  obtain ⟨h1, _⟩ := (go_iff ho.nd).mp h
  exact ⟨h1.nodup_iff.mpr ho.nd, fun k hk => ho.rng k (h1.mem_iff.mp hk), by rw [h1.length_eq]; exact ho.len⟩
theorem cntO_go {os s : List Int} (ho : os.Nodup) (h : Go os s []) : cntO s = cntO os := by
  obtain ⟨h1, h2⟩ := go_par ho h
  rw [cntO_ext ho, cntO_ext (h1.nodup_iff.mpr ho), h1.length_eq, ext_cong h1 h2]
theorem rank_go {os s : List Int} (ho : os.Nodup) (h : Go os s []) (t : List Int) : rank s t [] = rank os t [] := by
  obtain ⟨h1, h2⟩ := go_par ho h
  exact rank_cong h1 h2 t []
theorem go_go {os s t : List Int} (ho : os.Nodup) (h : Go os s []) (g : Go s t []) : Go os t [] := by
  obtain ⟨h1, h2⟩ := go_par ho h
  exact go_cong h1 h2 t [] g
/-- order_at of what is no number of the tree -/
def spOrdAtX (K : PySem.W.Frag) (C : Addr) : Sp := fun vs H _ E => ∃ (p : Addr) (ns ms : List Int) (x : V), vs = [.ref p, x] ∧ TreeOf H p ns ms ∧ WithAns K H 0 (((cntO ns : Nat) : Int) - 1) x false ∧ ∀ d H', Same H H' → H d = none → H' d = some (.xd [("value", x)]) → E (.ref C) (some d) H'
/-- what the law hears of it -/
def spLErr24 (K : PySem.W.Frag) : Sp := fun vs H Q _ => ∃ (p : Addr) (ns ms : List Int) (x : V) (t : Str), vs = [.ref p, x] ∧ TreeOf H p ns ms ∧ WithAns K H 0 (((cntO ns : Nat) : Int) - 1) x false ∧ Rp K H x t ∧ ∀ H' q, Same H H' → H q = none → H' q = some (.tup [.str t, .bl true]) → Q (.ref q) H'
/-- the orders of the tree, listed: the one at place j has the number j -/
theorem listed_at {os ms : List Int} (ho : os.Nodup) (hm : Asc ms os) {j : Nat} {s : List Int} (h : ((layer ms ms.length).filter (sameQ os))[j]? = some s) : Go os s [] ∧ rank os s [] = j ∧ j < cntO os := by
  have hmn : ms.Nodup := hm.1.nodup_iff.mpr ho
  obtain ⟨h1, h2⟩ := listed ho hm.1 ((hm.2.and hmn).imp fun h => Int.lt_iff_le_and_ne.mpr h) (sameQ os) (fun s hs => sameQ_go ho hs)
  have h3 := congrArg (fun l => l[j]?) h2
  replace h3 : (((layer ms ms.length).filter (sameQ os)).map fun s => rank os s [])[j]? = (List.range (ext os os.length []))[j]? := h3
  rw [List.getElem?_map, h] at h3
  have h4 : (List.range (ext os os.length []))[j]? = some (rank os s []) := h3.symm
  obtain ⟨h5, h6⟩ := List.getElem?_eq_some_iff.mp h4
  rw [List.length_range] at h5
  rw [List.getElem_range] at h6
  exact ⟨h1 s (List.mem_of_getElem? h), h6.symm, by rw [cntO_ext ho]; exact h5⟩
theorem listed_len {os ms : List Int} (ho : os.Nodup) (hm : Asc ms os) : ((layer ms ms.length).filter (sameQ os)).length = cntO os := by
  have hmn : ms.Nodup := hm.1.nodup_iff.mpr ho
  obtain ⟨h1, h2⟩ := listed ho hm.1 ((hm.2.and hmn).imp fun h => Int.lt_iff_le_and_ne.mpr h) (sameQ os) (fun s hs => sameQ_go ho hs)
  have h3 := congrArg List.length h2
  rw [List.length_map, List.length_range] at h3
  rw [h3, cntO_ext ho]
theorem dp_sb {K : PySem.W.Frag} {H : Hp} {a : Addr} {t : Str} {b : Bool} (h : SqT K H a [.str t, .bl b]) : Dp K H (.ref a) (.tuple [.str t, .bool b]) := .tup h (.cons (.str t) (.cons (.bl b) .nil))
theorem shaped_sb {t : Str} (h : PyData.strOk t = true) (b : Bool) : SeqAt.shaped (.tuple [.str t, .bool b]) = true := by
  simp [SeqAt.shaped, PyData.canLay0, PyData.canLayAll0, PyData.depth, PyData.depthAll, h]
theorem eqv_sb (t : Str) (b : Bool) : PyData.eqv (.tuple [.str t, .bool b]) (.tuple [.str t, .bool b]) = true := by
  simp [PyData.eqv, PyData.eqvAll]
end T1
namespace T1
open PySem PySem.Spec PyProof.Rows L2 TK BstM DatI DN
/-- heaps that keep all but the dicts -/
def KeepB (H H' : Hp) : Prop := ∀ c o, (∀ φ, o ≠ .ext φ) → H c = some o → H' c = some o
theorem KeepB.of {H H' : Hp} (s : Same H H') : KeepB H H' := fun c o _ e => s c o e
theorem KeepB.trans {H H' H'' : Hp} (a : KeepB H H') (b : KeepB H' H'') : KeepB H H'' := fun c o n e => b c o n (a c o n e)
theorem KeepB.put {H : Hp} {a : Addr} {φ : Heap → Prop} {o' : HO} (h : H a = some (.ext φ)) : KeepB H (upd H a o') := fun c o n e => by
  rw [upd_ne (fun z => by subst z; rw [h] at e; exact n φ (Option.some.inj e).symm)]
  exact e
theorem KeepB.tups {H H' : Hp} (s : KeepB H H') : ∀ (b : Addr) (xs : List V), H b = some (.tup xs) → H' b = some (.tup xs) := fun b xs e => s b _ (fun _ z => nomatch z) e
theorem TreeAt.keepB {H H' : Hp} {p : Addr} {l : List (Int × Option Int)} (h : TreeAt H p l) (s : KeepB H H') : TreeAt H' p l := by
  obtain ⟨as, h1, h2⟩ := h
  exact ⟨as, s.tups _ _ h1, Paired.mapP h2 fun _ _ z => s.tups _ _ z⟩
def oK : Option Int → NestedKey
  | none => .none
  | some i => .num i
def tK (l : List (Int × Option Int)) : NestedKey := .tup (l.map fun x => .tup [.num x.1, oK x.2])
theorem oK_inj : ∀ {a b : Option Int}, oK a = oK b → a = b
  | none, none, _ => rfl
  | none, some _, h => nomatch h
  | some _, none, h => nomatch h
  | some i, some j, h => by injection h with h; rw [h]
theorem tK_inj {l m : List (Int × Option Int)} (h : tK l = tK m) : l = m := by
  injection h with h
  refine List.map_inj_right (f := fun x : Int × Option Int => NestedKey.tup [.num x.1, oK x.2]) ?_ |>.mp h
  intro x y e
  injection e with e
  injection e with e1 e2
  injection e1 with e1
  injection e2 with e2 _
  exact Prod.ext e1 (oK_inj e2)
theorem keyV_o {H : Hp} (o : Option Int) : KeyV H (oK o) (oV o) := by
  cases o with
  | none => exact .non
  | some i => exact .int i
theorem keyV_tree {H : Hp} {p : Addr} {l : List (Int × Option Int)} (h : TreeAt H p l) : KeyV H (tK l) (.ref p) := by
  obtain ⟨as, h1, h2⟩ := h
  refine .tup h1 ?_
  clear h1
  induction h2 with
  | nil => exact .nil
  | cons e t ih => exact .cons (.tup e (.cons (.int _) (.cons (keyV_o _) .nil))) ih
theorem depth_o (o : Option Int) : (oK o).depth = 0 := by cases o <;> rfl
theorem depth_pairsK : ∀ l : List (Int × Option Int), NestedKey.depthAll (l.map fun x => NestedKey.tup [.num x.1, oK x.2]) ≤ 1
  | [] => by simp [NestedKey.depthAll]
  | x :: l => by
    rw [List.map_cons, NestedKey.depthAll]
    have h1 := depth_pairsK l
    have h2 : (NestedKey.tup [.num x.1, oK x.2]).depth = 1 := by simp [NestedKey.depth, NestedKey.depthAll, depth_o]
    omega
theorem depth_tK (l : List (Int × Option Int)) : (tK l).depth ≤ 2 := by
  unfold tK
  rw [NestedKey.depth]
  have := depth_pairsK l
  omega
theorem keyA_tree {H : Hp} {p : Addr} {l : List (Int × Option Int)} (h : TreeAt H p l) : KeyA H (tK l) p := ⟨keyV_tree h, Nat.le_trans (depth_tK l) (by decide)⟩
def nK (l : List (Int × Option Int)) (n : Int) : NestedKey := .tup [tK l, .num n]
theorem keyA_num {H : Hp} {b p : Addr} {l : List (Int × Option Int)} {n : Int} (e : H b = some (.tup [.ref p, .int n])) (h : TreeAt H p l) : KeyA H (nK l n) b := by
  refine ⟨.tup e (.cons (keyV_tree h) (.cons (.int n) .nil)), ?_⟩
  have := depth_tK l
  have h0 : (NestedKey.num n).depth = 0 := rfl
  simp only [nK, NestedKey.depth, NestedKey.depthAll]
  omega
theorem nK_inj {l m : List (Int × Option Int)} {i j : Int} (h : nK l i = nK m j) : l = m ∧ i = j := by
  injection h with h
  injection h with h1 h2
  injection h2 with h2 _
  injection h2 with h2
  exact ⟨tK_inj h1, h2⟩
/-! ### the trees of all orders, their numbers -/
theorem asc_of {ks s : List Int} (hk : ks.Pairwise (· < ·)) (hs : s.Perm ks) : Asc ks s := ⟨hs.symm, hk.imp fun h => Int.le_of_lt h⟩
theorem go_of_pairs {ks s t : List Int} (hk : ks.Pairwise (· < ·)) (hs : s.Perm ks) (ht : t.Perm ks) : pairsOf t ks = pairsOf s ks ↔ Go s t [] := by
  have hn : s.Nodup := hs.nodup_iff.mpr (hk.imp fun h => Int.ne_of_lt h)
  have h1 := pairs_sameQ hn (asc_of hk hs) (ht.trans hs.symm) (asc_of hk ht)
  rw [← sameQ_go hn (ht.trans hs.symm), ← h1, decide_eq_true_iff]
theorem num_inj {ks s t : List Int} (hk : ks.Pairwise (· < ·)) (hs : s.Perm ks) (ht : t.Perm ks) (e : pairsOf t ks = pairsOf s ks) (er : rank s s [] = rank t t []) : s = t := by
  have hn : s.Nodup := hs.nodup_iff.mpr (hk.imp fun h => Int.ne_of_lt h)
  have g := (go_of_pairs hk hs ht).mp e
  have hp : ∀ k ∈ s, par t k = par s k := fun k hk' => by
    have h1 := ((go_iff hn).mp g).2 k (((go_iff hn).mp g).1.mem_iff.mpr hk')
    exact h1
  have h2 : rank t t [] = rank s t [] := rank_cong ((go_iff hn).mp g).1 hp t []
  exact rank_inj hn (go_self hn) g (by rw [er, h2])
theorem sum_classes {α κ : Type} [DecidableEq κ] (c : α → κ) (R : List α) (hR : (R.map c).Nodup) : ∀ L : List α, (∀ x ∈ L, c x ∈ R.map c) → (R.map fun r => (L.countP fun x => decide (c x = c r))).sum = L.length
  | [], _ => by
    have e : (R.map fun r => (([] : List α).countP fun x => decide (c x = c r))) = R.map fun _ => 0 := rfl
    have z : ∀ R : List α, (R.map fun _ => 0).sum = 0 := fun R => by
      induction R with
      | nil => rfl
      | cons r R ih => rw [List.map_cons, List.sum_cons, ih]
    rw [e, z]
    rfl
  | x :: L, h => by
    have ih := sum_classes c R hR L (fun y hy => h y (List.mem_cons_of_mem _ hy))
    have e : ∀ R : List α, (R.map fun r => ((x :: L).countP fun x => decide (c x = c r))).sum = (R.map fun r => (L.countP fun x => decide (c x = c r))).sum + (R.map c).count (c x) := by
      intro R
      induction R with
      | nil => rfl
      | cons r R ih2 =>
        rw [List.map_cons, List.sum_cons, ih2, List.map_cons, List.sum_cons, List.map_cons, List.count_cons, List.countP_cons]
        by_cases z : c r = c x
        · simp [z]; omega
        · have z' : ¬ c x = c r := fun y => z y.symm
          simp [z, z']; omega
    rw [e, ih, hR.count, if_pos (h x List.mem_cons_self)]
    rfl
theorem all_counted {ks : List Int} (hk : ks.Pairwise (· < ·)) {R : List (List Int)} (hR : (R.map fun r => tK (pairsOf r ks)).Nodup) (hin : ∀ r ∈ R, r ∈ layer ks ks.length)
    (hall : ∀ s ∈ layer ks ks.length, tK (pairsOf s ks) ∈ R.map fun r => tK (pairsOf r ks)) : (R.map cntO).sum = fact ks.length := by
  have hn : ks.Nodup := hk.imp fun h => Int.ne_of_lt h
  have h1 := sum_classes (fun s => tK (pairsOf s ks)) R hR (layer ks ks.length) hall
  have h2 := layer_len hn ks.length (Nat.le_refl _)
  have h3 : fact (ks.length - ks.length) = 1 := by rw [Nat.sub_self]; rfl
  rw [h3, Nat.mul_one] at h2
  rw [← h2, ← h1]
  congr 1
  refine List.map_congr_left fun r hr => ?_
  have hp := layer_perm hn (hin r hr)
  rw [← listed_len (hp.nodup_iff.mpr hn) (asc_of hk hp), List.countP_eq_length_filter]
  congr 1
  refine List.filter_congr fun s hs => ?_
  have hs' := layer_perm hn hs
  have h4 := pairs_sameQ (hp.nodup_iff.mpr hn) (asc_of hk hp) (hs'.trans hp.symm) (asc_of hk hs')
  rw [← h4, decide_eq_decide]
  exact ⟨fun e => by rw [e], fun e => tK_inj e⟩
end T1
namespace T1
open PySem PySem.Spec PyProof.Rows L2 TK BstM DatI DN
def kvN (es : List DN.Ent) : List (NestedKey × V) := es.map fun e => (e.1, e.2.2)
theorem kv_val (es : List DN.Ent) (k : NestedKey) : valN es k = valV (kvN es) k := by
  induction es with
  | nil => rfl
  | cons e es ih =>
    show valN (e :: es) k = valV ((e.1, e.2.2) :: kvN es) k
    by_cases z : e.1 = k
    · rw [valV_pos z]; simp [valN, List.find?_cons, z]
    · rw [valV_neg z, ← ih]; simp [valN, List.find?_cons, z]
theorem kv_put (es : List DN.Ent) (k : NestedKey) (b : Addr) (v : V) : kvN (putN es k b v) = putK (kvN es) k v := by
  unfold putN putK
  rw [valV_any, ← kv_val]
  split
  · unfold kvN
    rw [List.map_map, List.map_map]
    refine List.map_congr_left fun e _ => ?_
    show ((if e.1 = k then (e.1, e.2.1, v) else e).1, (if e.1 = k then (e.1, e.2.1, v) else e).2.2) = if e.1 = k then (e.1, v) else (e.1, e.2.2)
    by_cases z : e.1 = k
    · rw [if_pos z, if_pos z]
    · rw [if_neg z, if_neg z]
  · unfold kvN
    rw [List.map_append]
    rfl
abbrev trK (ks s : List Int) : NestedKey := tK (pairsOf s ks)
def cV (ks : List Int) (R : List (List Int)) : List (NestedKey × V) := R.map fun r => (trK ks r, V.int ((cntO r : Nat) : Int))
/-- what the counts hold once the orders F are seen -/
def CD (ks : List Int) (F : List (List Int)) (es : List DN.Ent) : Prop :=
  ∃ R, (∀ r ∈ R, r ∈ F) ∧ (R.map (trK ks)).Nodup ∧ (∀ s ∈ F, trK ks s ∈ R.map (trK ks)) ∧ kvN es = cV ks R
theorem CD.nil (ks : List Int) : CD ks [] [] := ⟨[], (fun r h => nomatch h), List.nodup_nil, (fun s h => nomatch h), rfl⟩
theorem cV_none {ks : List Int} {k : NestedKey} : ∀ {R : List (List Int)}, k ∉ R.map (trK ks) → valV (cV ks R) k = none
  | [], _ => rfl
  | r :: R, h => by
    rw [List.map_cons, List.mem_cons, not_or] at h
    show valV ((trK ks r, _) :: cV ks R) k = none
    rw [valV_neg (fun z => h.1 z.symm)]
    exact cV_none h.2
theorem cnt_same {ks r s : List Int} (hk : ks.Pairwise (· < ·)) (hr : r.Perm ks) (hs : s.Perm ks) (e : trK ks r = trK ks s) : cntO r = cntO s :=
  cntO_go (hs.nodup_iff.mpr (hk.imp fun h => Int.ne_of_lt h)) ((go_of_pairs hk hs hr).mp (tK_inj e))
theorem CD.step {ks s : List Int} {F : List (List Int)} {es : List DN.Ent} (hk : ks.Pairwise (· < ·)) (hF : ∀ r ∈ F, r.Perm ks) (hs : s.Perm ks) (h : CD ks F es) (b : Addr) : CD ks (F ++ [s]) (putN es (trK ks s) b (.int ((cntO s : Nat) : Int))) := by
  obtain ⟨R, h1, h2, h3, h4⟩ := h
  by_cases z : trK ks s ∈ R.map (trK ks)
  · refine ⟨R, fun r hr => List.mem_append_left _ (h1 r hr), h2, fun x hx => ?_, ?_⟩
    · rcases List.mem_append.mp hx with hx | hx
      · exact h3 x hx
      · rw [List.mem_singleton.mp hx]; exact z
    · rw [kv_put, h4]
      unfold putK
      split
      · conv => rhs; rw [← List.map_id (cV ks R)]
        refine List.map_congr_left fun kv hkv => ?_
        obtain ⟨r, hr, rfl⟩ := List.mem_map.mp hkv
        show (if trK ks r = trK ks s then _ else _) = (trK ks r, V.int ((cntO r : Nat) : Int))
        by_cases y : trK ks r = trK ks s
        · rw [if_pos y, cnt_same hk (hF r (h1 r hr)) hs y]
        · rw [if_neg y]
      · rename_i hn
        exfalso
        obtain ⟨r, hr, er⟩ := List.mem_map.mp z
        exact hn (List.any_eq_true.mpr ⟨_, List.mem_map_of_mem hr, decide_eq_true er⟩)
  · refine ⟨R ++ [s], fun r hr => ?_, ?_, fun x hx => ?_, ?_⟩
    · rcases List.mem_append.mp hr with hr | hr
      · exact List.mem_append_left _ (h1 r hr)
      · exact List.mem_append_right _ hr
    · rw [List.map_append, List.nodup_append]
      refine ⟨h2, by simp, fun x hx y hy e => ?_⟩
      rw [List.map_singleton, List.mem_singleton] at hy
      exact z (hy ▸ e ▸ hx)
    · rw [List.map_append]
      rcases List.mem_append.mp hx with hx | hx
      · exact List.mem_append_left _ (h3 x hx)
      · rw [List.mem_singleton.mp hx]
        exact List.mem_append_right _ (by simp)
    · rw [kv_put, h4, putK_new _ (cV_none z)]
      unfold cV
      rw [List.map_append]
      rfl
theorem CD.sum {ks : List Int} {es : List DN.Ent} (hk : ks.Pairwise (· < ·)) (h : CD ks (layer ks ks.length) es) : ∃ cs : List Nat, es.map (fun e => e.2.2) = cs.map (fun c => V.int ((c : Nat) : Int)) ∧ cs.sum = fact ks.length := by
  obtain ⟨R, h1, h2, h3, h4⟩ := h
  refine ⟨R.map cntO, ?_, all_counted hk h2 h1 h3⟩
  have := congrArg (List.map Prod.snd) h4
  rw [show (kvN es).map Prod.snd = es.map fun e => e.2.2 from by unfold kvN; rw [List.map_map]; rfl] at this
  rw [this]
  unfold cV
  rw [List.map_map, List.map_map]
  rfl
/-- a key of the orders by tree and number -/
abbrev nuK (ks s : List Int) : NestedKey := nK (pairsOf s ks) ((rank s s [] : Nat) : Int)
theorem nuK_inj {ks s t : List Int} (hk : ks.Pairwise (· < ·)) (hs : s.Perm ks) (ht : t.Perm ks) (e : nuK ks s = nuK ks t) : s = t := by
  obtain ⟨h1, h2⟩ := nK_inj e
  exact num_inj hk hs ht h1.symm (by omega)
def RowIs (G : Hp) (ks s : List Int) (e : DN.Ent) : Prop := e.1 = nuK ks s ∧ (∃ tp, G e.2.1 = some (.tup [.ref tp, .int ((rank s s [] : Nat) : Int)]) ∧ TreeAt G tp (pairsOf s ks)) ∧ ∃ a, e.2.2 = .ref a ∧ G a = some (.lst (s.map V.int))
theorem RowIs.keep {G G' : Hp} {ks s : List Int} {e : DN.Ent} (h : RowIs G ks s e) (k : KeepB G G') : RowIs G' ks s e := by
  obtain ⟨h1, ⟨tp, h2, h3⟩, a, h4, h5⟩ := h
  exact ⟨h1, ⟨tp, k.tups _ _ h2, h3.keepB k⟩, a, h4, k _ _ (fun _ z => nomatch z) h5⟩
theorem rows_val {G : Hp} {ks : List Int} (hk : ks.Pairwise (· < ·)) {F : List (List Int)} {es : List DN.Ent} (h : Paired (RowIs G ks) F es) (hF : ∀ r ∈ F, r.Perm ks) {s : List Int} (hs : s.Perm ks) :
    (s ∉ F → valN es (nuK ks s) = none) ∧ (s ∈ F → ∃ a, valN es (nuK ks s) = some (.ref a) ∧ G a = some (.lst (s.map V.int))) := by
  induction h with
  | nil => exact ⟨fun _ => rfl, fun h => nomatch h⟩
  | @cons r e F es hr t ih =>
    obtain ⟨h1, _, a, h4, h5⟩ := hr
    have ih := ih (fun r hr => hF r (List.mem_cons_of_mem _ hr))
    by_cases z : r = s
    · subst z
      refine ⟨fun h => absurd List.mem_cons_self h, fun _ => ⟨a, ?_, h5⟩⟩
      rw [← h4]
      simp [valN, List.find?_cons, h1]
    · have ne : ¬ e.1 = nuK ks s := fun y => z (nuK_inj hk (hF r List.mem_cons_self) hs (h1.symm.trans y))
      have e1 : valN (e :: es) (nuK ks s) = valN es (nuK ks s) := by simp [valN, List.find?_cons, ne]
      rw [e1]
      refine ⟨fun h => ih.1 fun y => h (List.mem_cons_of_mem _ y), fun h => ih.2 ?_⟩
      rcases List.mem_cons.mp h with y | y
      · exact absurd y.symm z
      · exact y
theorem keep_of {A B : Addr} {H G : Hp} {φ ψ : Heap → Prop} (hA : H A = some (.ext φ)) (hB : H B = some (.ext ψ)) (k : ∀ c o, c ≠ A → c ≠ B → H c = some o → G c = some o) : KeepB H G := fun c o n e => by
  refine k c o (fun z => ?_) (fun z => ?_) e
  · subst z; rw [hA] at e; exact n _ (Option.some.inj e).symm
  · subst z; rw [hB] at e; exact n _ (Option.some.inj e).symm
theorem ltI_irrefl : ∀ l : List Int, ¬ ltI l l
  | [], h => h
  | k :: l, h => by
    rcases (show k < k ∨ (k = k ∧ ltI l l) from h) with h | ⟨_, h⟩
    · omega
    · exact ltI_irrefl l h
theorem hasN_keepB {P : Program} {w : World} {H H' : Hp} {a : Addr} {es : List DN.Ent} (h : HasN P w H a es) (e : H' a = H a) (k : KeepB H H') : HasN P w H' a es := ⟨e.trans h.1, fun x hx => (h.2 x hx).keep k.tups⟩
theorem not_before {α : Type} {L : List α} (hn : L.Nodup) {j : Nat} {s : α} (h : L[j]? = some s) : s ∉ L.take j := fun z => by
  obtain ⟨hj, e⟩ := List.getElem?_eq_some_iff.mp h
  obtain ⟨n, hn', e2⟩ := List.mem_take_iff_getElem.mp z
  have := (List.getElem_inj hn).mp (e2.trans e.symm)
  omega
theorem take_step {α : Type} {L : List α} {j : Nat} {s : α} (h : L[j]? = some s) : L.take (j + 1) = L.take j ++ [s] := by
  rw [List.take_succ, h]
  rfl
theorem CD.nd {ks : List Int} {F : List (List Int)} {es : List DN.Ent} (h : CD ks F es) : (es.map (·.1)).Nodup := by
  obtain ⟨R, _, h2, _, h4⟩ := h
  have := congrArg (List.map Prod.fst) h4
  unfold kvN cV at this
  rw [List.map_map, List.map_map] at this
  rw [show es.map (·.1) = es.map (Prod.fst ∘ fun e : DN.Ent => (e.1, e.2.2)) from rfl, this]
  exact h2
theorem val_mem : ∀ {es : List DN.Ent} {e : DN.Ent}, (es.map (·.1)).Nodup → e ∈ es → valN es e.1 = some e.2.2
  | [], _, _, h => nomatch h
  | x :: es, e, hn, h => by
    rw [List.map_cons, List.nodup_cons] at hn
    by_cases z : x = e
    · subst z; simp [valN, List.find?_cons]
    · have hm : e ∈ es := by
        rcases List.mem_cons.mp h with y | y
        · exact absurd y.symm z
        · exact y
      have ne : ¬ x.1 = e.1 := fun y => hn.1 (y ▸ List.mem_map_of_mem hm)
      rw [← val_mem hn.2 hm]
      simp [valN, List.find?_cons, ne]
theorem sum_nat : ∀ cs : List Nat, (cs.map fun c => ((c : Nat) : Int)).sum = ((cs.sum : Nat) : Int)
  | [] => rfl
  | c :: cs => by rw [List.map_cons, List.sum_cons, List.sum_cons, sum_nat cs]; omega
theorem paired_back {α β : Type} {F : α → β → Prop} : ∀ {l : List α} {m : List β}, Paired F l m → ∀ {i : Nat} {y : β}, m[i]? = some y → ∃ x, l[i]? = some x ∧ F x y
  | _, _, .nil, i, y, h => nomatch h
  | _, _, .cons (a := a) r t, 0, y, h => by
    simp only [List.getElem?_cons_zero, Option.some.injEq] at h
    subst h
    exact ⟨a, rfl, r⟩
  | _, _, .cons r t, i + 1, y, h => by
    simp only [List.getElem?_cons_succ] at h ⊢
    exact paired_back t h
end T1
namespace T1
open PySem PySem.Spec PyProof.Rows L2 TK BstM DatI DN
section
variable {P : Program} {w : World} {K : PySem.W.Frag} {mg : Str → Option Value} {base : Heap}
abbrev sLaw : Stmt := topS 45
abbrev nLaw : List Str := ["_law_script", "_law_k", "_law_pool_here", "_law_keys_here", "_law_counts", "_law_seen", "_law_order", "_law_tree", "_law_rows", "_law_number"]
theorem scLaw : FnScope nLaw ["_law_script"] (defScope sLaw) := ⟨rfl, rfl, rfl, by decide +kernel, rfl, by decide +kernel, by decide +kernel⟩
theorem ok_law {f : Addr} {fd : FuncData} {s : Shared} {H : Hp} {a : Addr} {ns : List Int} (F : Fun K "law" "law" sLaw f fd)
    (h__law_pool : OkE P w K mg base 1 "_law_pool" ["_law_script", "_law_k"] (spPool K)) (h__law_keys : OkE P w K mg base 2 "_law_keys" ["_law_pool_here", "_law_many"] spKeys) (h__law_permutations : OkE P w K mg base 1 "_law_permutations" ["_law_keys_here"] (spPerms K)) (h__law_draw : OkE P w K mg base 1 "_law_draw" ["_law_pool_here", "_law_count"] spDraw) (h_build : OkE P w K mg base 5 "build" ["order"] (spBuild K)) (h_count_orders : OkE P w K mg base 8 "count_orders" ["tree"] spCountO) (h__law_factorial : OkE P w K mg base 1 "_law_factorial" ["_law_many"] spFact) (h_order_at : OkE P w K mg base 8 "order_at" ["tree", "number"] spOrdAt) (h_number_of : OkE P w K mg base 6 "number_of" ["order"] spNumOf) (T : Names mg)
    (hb : BindsTo s fd ⟨[.ref a], []⟩ [("_law_script", .ref a)]) (hS : SqL K H a (ns.map V.int)) (hlen : ns.length ≤ 63) (e0 : Env0 P w K mg base callerA [] s H) :
    codeAny (model P w) callerA (.call (.ref f) ⟨[.ref a], []⟩) (CR CX0 [] P w H s (fun v _ => v = .bl true) (fun _ _ _ => False)) s := by
  refine top_run (k := 24) (v := .ref a) F scLaw ⟨rfl, by decide, by decide⟩ e0 hb rfl fun cdv hr => ?_
  have hu := hu_of hr
  have h9 := Nat.lt_of_le_of_lt (Nat.add_le_add_left (by decide : 9 ≤ 64) _) hr.units
  obtain ⟨f__law_pool, d__law_pool, O__law_pool⟩ := h__law_pool
  obtain ⟨f__law_keys, d__law_keys, O__law_keys⟩ := h__law_keys
  obtain ⟨f__law_permutations, d__law_permutations, O__law_permutations⟩ := h__law_permutations
  obtain ⟨f__law_draw, d__law_draw, O__law_draw⟩ := h__law_draw
  obtain ⟨f_build, d_build, O_build⟩ := h_build
  obtain ⟨f_count_orders, d_count_orders, O_count_orders⟩ := h_count_orders
  obtain ⟨f__law_factorial, d__law_factorial, O__law_factorial⟩ := h__law_factorial
  obtain ⟨f_order_at, d_order_at, O_order_at⟩ := h_order_at
  obtain ⟨f_number_of, d_number_of, O_number_of⟩ := h_number_of
  refine ⟨_, PSs.nox (pss_cons (ps_for PassesOwn.never rfl (pi_range1 rfl T.range (pa_cons (pe_callB (call_max2 rfl) (by rfl) T.max (by decide +kernel) (pa_cons pe_int (pa_cons (pe_callB (call_min2 rfl) (by rfl) T.min (by decide +kernel) (pa_cons pe_int (pa_cons (pe_callB call_len_seq (by rfl) T.len PySem.boot_len (pa_cons (pv 0) pa_nil)) pa_nil))) pa_nil))) pa_nil)) (pg_name (i := 1) scLaw.nd rfl (.inl rfl))
      (pss_cons (ps_set (i := 2) scLaw.nd rfl (.inl rfl) (pe_callO O__law_pool hr (pa_cons (pv 0) (pa_cons (pv 1) pa_nil))))
        (pss_cons (ps_set (i := 3) scLaw.nd rfl (.inl rfl) (pe_callO O__law_keys hr (pa_cons (pv 2) (pa_cons (pe_callO O__law_draw hr (pa_cons (pv 2) (pa_cons pe_int pa_nil))) pa_nil))))
        (pss_cons (ps_asg (pe_tup (pa_cons (pe_nnewP (P := P) (w := w) rfl rfl) (pa_cons (pe_nnewP (P := P) (w := w) rfl rfl) pa_nil))) (pg_tup rfl (pgs_cons (pg_name (i := 4) scLaw.nd rfl (.inr rfl)) (pgs_cons (pg_name (i := 5) scLaw.nd rfl (.inl rfl)) pgs_nil))))
        (pss_cons (ps_for PassesOwn.never rfl (pi_list (pe_callO O__law_permutations hr (pa_cons (pv 3) pa_nil))) (pg_name (i := 6) scLaw.nd rfl (.inl rfl))
        (pss_cons (ps_set (i := 7) scLaw.nd rfl (.inl rfl) (pe_callO O_build hr (pa_cons (pv 6) pa_nil)))
          (pss_cons (ps_nputP (P := P) (w := w) rfl rfl h9 (pv 4) (pv 7) (pe_callO O_count_orders hr (pa_cons (pv 7) pa_nil)) rfl)
          (pss_one (ps_nputP (P := P) (w := w) rfl rfl h9 (pv 5) (pe_tup (pa_cons (pv 7) (pa_cons (pe_callO O_number_of hr (pa_cons (pv 6) pa_nil)) pa_nil))) (pv 6) rfl)))))
        (pss_cons (ps_if (pt_cmpR (op_neD hr.units) (pe_callB (cr_sum rfl) (by rfl) T.sum (by decide +kernel) (pa_cons (pe_lock (pe_lc (own := [("_law_tree", 7)]) (g := gName 7) (tt := tYes) rfl scLaw.nd (pi_keysNP (P := P) (w := w) rfl rfl (pv 4)) (blkOk_by (N := nLaw) (sc := defScope sLaw) (by decide +kernel)) (fun _ _ _ _ _ => (pg_name (i := 7) scLaw.nd rfl (.inl rfl))) (fun _ _ _ _ _ => pts_nil) (fun _ _ _ _ _ => (pe_ngetP (P := P) (w := w) rfl rfl h9 (pv 4) (pv 7) (fun _ _ => rfl))))) pa_nil)) (pe_callO O__law_factorial hr (pa_cons (pe_callB call_len_seq (by rfl) T.len PySem.boot_len (pa_cons (pv 3) pa_nil)) pa_nil)) (nomark _)) (pss_one ps_never) pss_nil)
        (pss_cons (ps_if (pt_cmpR (op_neD hr.units) (pe_callB (cr_lenNP (P := P) (w := w) rfl rfl) (by rfl) T.len PySem.boot_len (pa_cons (pv 5) pa_nil)) (pe_callO O__law_factorial hr (pa_cons (pe_callB call_len_seq (by rfl) T.len PySem.boot_len (pa_cons (pv 3) pa_nil)) pa_nil)) (nomark _)) (pss_one ps_never) pss_nil)
        (pss_cons (ps_set (i := 8) scLaw.nd rfl (.inl rfl) (pe_callTy (cr_listNP (P := P) (w := w) rfl rfl rfl) (by rfl) T.list (by decide +kernel) (pa_cons (pv 5) pa_nil)))
        (pss_one (ps_for PassesOwn.never rfl (pi_list (pe_skip (pv 8) (pe_op op_add pe_int (pe_op op_fdiv (pe_callB call_len_seq (by rfl) T.len PySem.boot_len (pa_cons (pv 8) pa_nil)) pe_int)))) (pg_tup rfl (pgs_cons (pg_name (i := 7) scLaw.nd rfl (.inl rfl)) (pgs_cons (pg_name (i := 9) scLaw.nd rfl (.inl rfl)) pgs_nil)))
        (pss_one (ps_if (pt_cmpR (op_neD hr.units) (pe_callO O_order_at hr (pa_cons (pv 7) (pa_cons (pv 9) pa_nil))) (pe_ngetP (P := P) (w := w) rfl rfl h9 (pv 5) (pe_tup (pa_cons (pv 7) (pa_cons (pv 9) pa_nil))) (fun _ _ => rfl)) (nomark _)) (pss_one ps_never) pss_nil))))))))))))
      (pss_one (ps_ret pe_bl))), ?_⟩
  refine ⟨_, rfl, a, _, rfl, .inl hS, _, _, rfl, _, _, rfl, ?_⟩
  rw [List.length_map]
  obtain ⟨m, hm, hm8⟩ := turns 2 ns.length (by decide)
  refine ⟨(m : Int), by rw [hm]; rfl, by omega, by omega, ?_⟩
  refine for_range (lo := 0) (n := m) (fun i σ H' => ∃ y1 y2 y3 y4 y5 y6 y7 y8 y9, σ = [some (.ref a), y1, y2, y3, y4, y5, y6, y7, y8, y9] ∧ Same H H') ⟨_, _, _, _, _, _, _, _, _, rfl, Same.refl _⟩ (fun i σ H' hi h => ?_) (fun σ H' h => ?_)
  rotate_left
  · exact rfl
  obtain ⟨y1, y2, y3, y4, y5, y6, y7, y8, y9, rfl, sm⟩ := h
  refine ⟨_, rfl, _, rfl, a, ns, i, (by show [V.ref a, V.int (0 + (i : Int))] = _; rw [Int.zero_add]), sm.seq hS, hlen, by omega, fun H1 p s1 np hp => ?_⟩
  have np0 : H p = none := sm.free np
  have sm1 := sm.trans s1
  refine ⟨_, rfl, _, rfl, p, 7, rfl, hp, by decide, by decide, fun H2 r k2 r0 r7 => ?_⟩
  obtain ⟨r, rfl⟩ := Int.eq_ofNat_of_zero_le r0
  refine ⟨p, r, rfl, k2.1, by omega, fun H3 q ks k3 nq hqp hq hks hkl => ?_⟩
  have sm3 : Same H H3 := fun b x e => k3.2 b x (ne_of_none e np0) (k2.2 b x (ne_of_none e np0) (sm1 b x e))
  have hk6 : ks.length ≤ 6 := by omega
  have hkn : ks.Nodup := hks.lt.imp fun h => Int.ne_of_lt h
  refine fun A nA B nB => ⟨by show 2 ≤ sizeLine; decide, fun tp ntp => ⟨tp, _, rfl, SqT.of upd_same, rfl, _, _, rfl, _, _, rfl, rfl, ?_⟩⟩
  have nAB : B ≠ A := fun z => by rw [z, upd_same] at nB; exact nomatch nB
  have nB3 : H3 B = none := by rw [upd_ne nAB] at nB; exact nB
  have ntA : tp ≠ A := fun z => by rw [z, upd_ne nAB.symm, upd_same] at ntp; exact nomatch ntp
  have ntB : tp ≠ B := fun z => by rw [z, upd_same] at ntp; exact nomatch ntp
  have nt3 : H3 tp = none := by rw [upd_ne ntB, upd_ne ntA] at ntp; exact ntp
  have hA4 : (upd (upd (upd H3 A (DN P w A [])) B (DN P w B [])) tp (.tup [.ref A, .ref B])) A = some (DN P w A []) := by rw [upd_ne ntA.symm, upd_ne nAB.symm]; exact upd_same
  have hB4 : (upd (upd (upd H3 A (DN P w A [])) B (DN P w B [])) tp (.tup [.ref A, .ref B])) B = some (DN P w B []) := by rw [upd_ne ntB.symm]; exact upd_same
  have sm4 : Same H3 (upd (upd (upd H3 A (DN P w A [])) B (DN P w B [])) tp (.tup [.ref A, .ref B])) := fun b x e => by
    rw [upd_ne (ne_of_none e nt3), upd_ne (ne_of_none e nB3), upd_ne (ne_of_none e nA)]; exact e
  generalize upd (upd (upd H3 A (DN P w A [])) B (DN P w B [])) tp (.tup [.ref A, .ref B]) = H4 at hA4 hB4 sm4 ⊢
  refine ⟨_, rfl, q, ks, rfl, SqL.of (sm4 _ _ hq), hkn, hk6, fun H5 b as s5 nb hb hLs hnew => ?_⟩
  have hA5 := s5 _ _ hA4
  have hB5 := s5 _ _ hB4
  have hA5' : HasN P w H5 A [] := ⟨hA5, fun e h => nomatch h⟩
  have hB5' : HasN P w H5 B [] := ⟨hB5, fun e h => nomatch h⟩
  have hperm : ∀ s ∈ layer ks ks.length, s.Perm ks := fun s hs => layer_perm hkn hs
  have hlen7 : (layer ks ks.length).length ≤ 720 := layer_720 hkn hk6 (Nat.le_refl _)
  have hfac : (layer ks ks.length).length = fact ks.length := by
    have h1 := layer_len hkn ks.length (Nat.le_refl _)
    rw [Nat.sub_self, show fact 0 = 1 from rfl, Nat.mul_one] at h1
    exact h1
  have hnd : (layer ks ks.length).Nodup := (layer_asc hks.lt _).imp fun h e => by
    subst e
    exact ltI_irrefl _ h
  have hsum := fun {es : List DN.Ent} (h : CD ks (layer ks ks.length) es) => h.sum hks.lt
  have has : as.length = (layer ks ks.length).length := Paired.length hLs
  generalize hL : layer ks ks.length = L at hLs hperm hlen7 hfac hnd hsum has
  refine ⟨b, rfl, ⟨_, SqL.of hb⟩, ?_⟩
  refine for_list (K := K) (a := b) (xs := as.map V.ref) (fun j σ G => ∃ z6 z7 es1 es2, σ = [some (.ref a), some (.int (0 + (i : Int))), some (.ref p), some (.ref q), some (.ref A), some (.ref B), z6, z7, y8, y9] ∧
    (∀ c o, c ≠ A → c ≠ B → H5 c = some o → G c = some o) ∧ HasN P w G A es1 ∧ HasN P w G B es2 ∧ es1.length ≤ j ∧ CD ks (L.take j) es1 ∧ Paired (RowIs G ks) (L.take j) es2)
    ⟨_, _, [], [], rfl, fun c o _ _ e => e, hA5', hB5', Nat.le_refl _, CD.nil ks, .nil⟩ (fun j σ G _ h => ?_) (fun j x σ G hx h => ?_) (fun σ G h => ?_)
  · obtain ⟨_, _, _, _, _, k, hA, hB, _⟩ := h
    exact SqL.of (keep_of hA5 hB5 k _ _ (fun _ z => nomatch z) hb)
  · obtain ⟨z6, z7, es1, es2, rfl, k, hA, hB, hl1, hC, hR⟩ := h
    rw [List.getElem?_map] at hx
    obtain ⟨c, hc, rfl⟩ := Option.map_eq_some_iff.mp hx
    obtain ⟨s, hs, hcs⟩ := T1.paired_get hLs hc
    have hsm : s ∈ L := List.mem_of_getElem? hs
    have hsp := hperm s hsm
    have hso : Order s := ⟨hsp.nodup_iff.mpr hkn, fun k hk => hks.rng k (hsp.mem_iff.mp hk), by rw [hsp.length_eq]; omega⟩
    have hjL : j < L.length := (List.getElem?_eq_some_iff.mp hs).1
    have kp0 := keep_of hA5 hB5 k
    have hc' := kp0 _ (.lst _) (fun _ z => nomatch z) hcs
    refine ⟨_, rfl, c, s, rfl, hc', hso, fun G1 t ms g1 nt hms htr => ?_⟩
    obtain rfl : ms = ks := asc_unique hso.nd hms (asc_of hks.lt hsp)
    refine ⟨_, rfl, t, s, ms, rfl, ⟨htr, hso, hms⟩, fun G2 g2 => ?_⟩
    have sG2 := g1.trans g2
    have ht2 := htr.keep g2
    have hA2 := hA.keep sG2
    have hB2 := hB.keep sG2
    refine ⟨_, rfl, _, rfl, A, t, es1, trK ms s, rfl, rfl, hA2, Nat.lt_of_lt_of_le (show es1.length < 1000 by omega) (by decide), keyA_tree ht2, ?_⟩
    have hA3 := hasN_put (v := .int ((cntO s : Nat) : Int)) hA2 (keyA_tree ht2)
    have kp3 : KeepB G2 (upd G2 A (DN P w A (putN es1 (trK ms s) t (.int ((cntO s : Nat) : Int))))) := KeepB.put hA2.1
    have hB3 := hasN_keepB hB2 (upd_ne nAB) kp3
    have ne3 : ∀ c o, c ≠ A → G2 c = some o → (upd G2 A (DN P w A (putN es1 (trK ms s) t (.int ((cntO s : Nat) : Int))))) c = some o := fun c o n e => by rw [upd_ne n]; exact e
    generalize upd G2 A (DN P w A (putN es1 (trK ms s) t (.int ((cntO s : Nat) : Int)))) = G3 at hA3 kp3 hB3 ne3 ⊢
    have kp03 := (KeepB.of sG2).trans kp3
    have hc3 := kp03 _ (.lst _) (fun _ z => nomatch z) hc'
    refine ⟨_, rfl, _, rfl, _, rfl, _, rfl, c, s, rfl, hc3, hso, fun G4 g4 => ⟨by show 2 ≤ sizeLine; decide, fun kp nkp => ?_⟩⟩
    have hnA : kp ≠ A := (ne_of_none (g4 _ _ hA3.1) nkp).symm
    have hnB : kp ≠ B := (ne_of_none (g4 _ _ hB3.1) nkp).symm
    have ht4 := (ht2.keepB kp3).keep (g4.trans (same_upd (o := .tup [.ref t, .int ((rank s s [] : Nat) : Int)]) nkp))
    have hA4' := hA3.keep (g4.trans (same_upd (o := .tup [.ref t, .int ((rank s s [] : Nat) : Int)]) nkp))
    have hB4' := hB3.keep (g4.trans (same_upd (o := .tup [.ref t, .int ((rank s s [] : Nat) : Int)]) nkp))
    have sG4 := g4.trans (same_upd (o := .tup [.ref t, .int ((rank s s [] : Nat) : Int)]) nkp)
    have hkp : (upd G4 kp (.tup [.ref t, .int ((rank s s [] : Nat) : Int)])) kp = some (.tup [.ref t, .int ((rank s s [] : Nat) : Int)]) := upd_same
    have hK := keyA_num hkp ht4
    have hl2 : es2.length = j := by rw [← Paired.length hR, List.length_take]; omega
    refine ⟨B, kp, es2, nuK ms s, rfl, rfl, hB4', Nat.lt_of_lt_of_le (show es2.length < 1000 by omega) (by decide), hK, ?_⟩
    have hFp : ∀ r ∈ L.take j, r.Perm ms := fun r hr => hperm r (List.mem_of_mem_take hr)
    have hv0 := (rows_val hks.lt hR hFp hsp).1 (not_before hnd hs)
    have kpE : KeepB (upd G4 kp (.tup [.ref t, .int ((rank s s [] : Nat) : Int)])) (upd (upd G4 kp (.tup [.ref t, .int ((rank s s [] : Nat) : Int)])) B (DN P w B (putN es2 (nuK ms s) kp (.ref c)))) := KeepB.put hB4'.1
    have kpG := (kp03.trans (KeepB.of sG4)).trans kpE
    refine ⟨_, _, _, _, rfl, fun x o nA' nB' e => ?_, hasN_keepB hA4' (upd_ne nAB.symm) kpE, hasN_put hB4' hK, ?_, ?_, ?_⟩
    · rw [upd_ne nB']
      exact sG4 _ _ (ne3 _ _ nA' (sG2 _ _ (k x o nA' nB' e)))
    · exact Nat.le_trans (putN_len ..) (Nat.succ_le_succ hl1)
    · rw [take_step hs]
      exact CD.step hks.lt hFp hsp hC t
    · rw [putN_new kp (.ref c) hv0] at kpE kpG
      rw [take_step hs, putN_new kp (.ref c) hv0]
      refine paired_snoc (Paired.mapP hR fun _ _ z => z.keep kpG) ⟨rfl, ⟨t, ?_, ht4.keepB kpE⟩, c, rfl, ?_⟩
      · exact kpE.tups _ _ hkp
      · exact kpG _ (.lst _) (fun _ z => nomatch z) hc'
  obtain ⟨z6, z7, es1, es2, rfl, k, hA, hB, hl1, hC, hR⟩ := h
  rw [List.length_map, has] at hl1 hC hR
  rw [List.take_length] at hC hR
  obtain ⟨cs, hcs, hcsum⟩ := hsum hC
  have kp0 := keep_of hA5 hB5 k
  have hqG := kp0 _ (.lst _) (fun _ z => nomatch z) (s5 _ _ (sm4 _ _ hq))
  have smG : Same H G := fun c o e => k c o (ne_of_none (sm3 _ _ e) nA) (ne_of_none (sm3 _ _ e) nB3) (s5 _ _ (sm4 _ _ (sm3 _ _ e)))
  refine ⟨A, _, hA.1, trivial, fun od => ?_⟩
  have hf : (upd G A (.frz od (DN P w A es1))) A = some (.frz od (DN P w A es1)) := upd_same
  have kf : KeepB G (upd G A (.frz od (DN P w A es1))) := KeepB.put hA.1
  have back : ∀ G', Same (upd G A (.frz od (DN P w A es1))) G' → Same G (upd G' A (DN P w A es1)) := fun G' sg c o e => by
    by_cases z : c = A
    · subst z
      rw [hA.1] at e
      rw [upd_same]
      exact e
    · rw [upd_ne z]
      exact sg _ _ (by rw [upd_ne z]; exact e)
  have kA : ∀ e ∈ es1, KeyA (upd G A (.frz od (DN P w A es1))) e.1 e.2.1 := fun e he => (hA.2 e he).keep kf.tups
  have nDA : ∀ {D : Addr}, (upd G A (.frz od (DN P w A es1))) D = none → D ≠ A := fun h z => by rw [z, upd_same] at h; exact nomatch h
  generalize upd G A (.frz od (DN P w A es1)) = G1 at hf kf back kA nDA ⊢
  refine ⟨_, rfl, A, od, es1, rfl, hf, fun D nD => ?_⟩
  have hl1' : es1.length = cs.length := by rw [← List.length_map (f := fun e : DN.Ent => e.2.2), hcs, List.length_map]
  refine lc_it (walk_N (P := P) (w := w) (d := A) (o := od) (es := es1)) (fun j G' => Same G1 G' ∧ G' D = some (.lst ((es1.take j).map fun e => e.2.2))) ⟨same_upd nD, by rw [upd_same]; rfl⟩ (fun j G' _ h => h.1 _ _ hf) (fun j x G' G2 hj h y => ?_) (fun G' h => ?_)
  · obtain ⟨sg, hD⟩ := h
    obtain ⟨rfl, hy⟩ := y
    rw [List.getElem?_map] at hy
    obtain ⟨e, he, rfl⟩ := Option.map_eq_some_iff.mp hy
    have hem := List.mem_of_getElem? he
    refine ⟨rfl, ?_⟩
    dsimp only [tYes]
    rw [if_pos rfl]
    refine ⟨_, rfl, _, rfl, A, e.2.1, es1, e.1, e.2.2, rfl, rfl, ⟨.inr ⟨od, sg _ _ hf⟩, fun x hx => (kA x hx).keep fun b xs z => sg _ _ z⟩, (kA e hem).keep fun b xs z => sg _ _ z, val_mem hC.nd hem, _, hD, ?_, ?_⟩
    · rw [List.length_map, List.length_take]
      exact Nat.lt_of_lt_of_le (show min j es1.length < 1000 by omega) (by decide)
    · refine ⟨fun b o e' => ?_, ?_⟩
      · rw [upd_ne (ne_of_none e' nD)]
        exact sg _ _ e'
      · rw [upd_same, take_step he, List.map_append]
        rfl
  obtain ⟨sg, hD⟩ := h
  rw [List.take_length, hcs] at hD
  have sB := back G' sg
  refine ⟨sg _ _ hf, D, cs.map (fun c => ((c : Nat) : Int)), rfl, ?_, ?_⟩
  · refine SqL.of ?_
    rw [upd_ne (nDA nD), hD, List.map_map]
    rfl
  generalize upd G' A (DN P w A es1) = G2 at sB ⊢
  have hqG2 := sB _ _ hqG
  refine ⟨_, rfl, q, _, rfl, .inl (SqL.of hqG2), ks.length, by rw [List.length_map]; rfl, by omega, ?_⟩
  refine ⟨_, _, .int _, .int _, rfl, rfl, _, rfl, ?_⟩
  have e1 : ((cs.map fun c => ((c : Nat) : Int)).sum) = ((fact ks.length : Nat) : Int) := by rw [sum_nat, hcsum]
  rw [e1, show PyData.eqv (.int ((fact ks.length : Nat) : Int)) (.int ((fact ks.length : Nat) : Int)) = true from by simp [PyData.eqv]]
  refine iteF ?_
  have hB2 := hB.keep sB
  have hR2 : Paired (RowIs G2 ks) L es2 := Paired.mapP hR fun _ _ z => z.keep (KeepB.of sB)
  refine ⟨_, rfl, B, es2, rfl, hB2.rd, ?_⟩
  refine ⟨_, rfl, q, _, rfl, .inl (SqL.of hqG2), ks.length, by rw [List.length_map]; rfl, by omega, ?_⟩
  refine ⟨_, _, .int _, .int _, rfl, rfl, _, rfl, ?_⟩
  have hlB : es2.length = fact ks.length := by rw [← hfac, Paired.length hR]
  rw [hlB, show PyData.eqv (.int ((fact ks.length : Nat) : Int)) (.int ((fact ks.length : Nat) : Int)) = true from by simp [PyData.eqv]]
  refine iteF ?_
  refine ⟨_, rfl, B, es2, rfl, hB2.rd, fun W nW => ?_⟩
  have sW := same_upd (o := .lst (es2.map fun e => V.ref e.2.1)) nW
  have hW : (upd G2 W (.lst (es2.map fun e => V.ref e.2.1))) W = some (.lst (es2.map fun e => V.ref e.2.1)) := upd_same
  generalize upd G2 W (.lst (es2.map fun e => V.ref e.2.1)) = G3 at sW hW ⊢
  refine ⟨_, rfl, _, rfl, W, _, rfl, .inl (SqL.of hW), ?_⟩
  have hB3 := hB2.keep sW
  have hR3 : Paired (RowIs G3 ks) L es2 := Paired.mapP hR2 fun _ _ z => z.keep (KeepB.of sW)
  have sm3' := smG.trans (sB.trans sW)
  refine ⟨_, _, rfl, rfl, ⟨by decide, by decide⟩, _, _, rfl, rfl, _, rfl, W, _, rfl, by omega, SqL.of hW, fun Y ys nY hsub => ⟨Y, rfl, ⟨_, SqL.of upd_same⟩, ?_⟩⟩
  have sY := same_upd (o := .lst ys) nY
  have hY : (upd G3 Y (.lst ys)) Y = some (.lst ys) := upd_same
  generalize upd G3 Y (.lst ys) = G4 at sY hY ⊢
  have hB4 := hB3.keep sY
  have hR4 : Paired (RowIs G4 ks) L es2 := Paired.mapP hR3 fun _ _ z => z.keep (KeepB.of sY)
  have smH := sm3'.trans sY
  refine for_list (K := K) (a := Y) (xs := ys) (fun j σ G => ∃ z6 z7 z9, σ = [some (.ref a), some (.int (0 + (i : Int))), some (.ref p), some (.ref q), some (.ref A), some (.ref B), z6, z7, some (.ref W), z9] ∧ Same G4 G) ⟨_, _, _, rfl, Same.refl _⟩ (fun j σ G _ h => ?_) (fun j x σ G hx h => ?_) (fun σ G h => ?_)
  · obtain ⟨_, _, _, _, sg'⟩ := h
    exact SqL.of (sg' _ _ hY)
  · obtain ⟨x6, x7, x9, rfl, sg'⟩ := h
    obtain ⟨e, he, rfl⟩ := List.mem_map.mp (hsub x (List.mem_of_getElem? hx))
    obtain ⟨n, hn⟩ := List.getElem?_of_mem he
    obtain ⟨s, hs, hrow⟩ := paired_back hR4 hn
    have hsm : s ∈ L := List.mem_of_getElem? hs
    have hsp := hperm s hsm
    have hso : Order s := ⟨hsp.nodup_iff.mpr hkn, fun k hk => hks.rng k (hsp.mem_iff.mp hk), by rw [hsp.length_eq]; omega⟩
    obtain ⟨_, ⟨t, ht1, ht2⟩, _⟩ := hrow.keep (KeepB.of sg')
    refine ⟨_, _, rfl, SqT.of ht1, rfl, _, _, rfl, _, _, rfl, rfl, ?_⟩
    have hrk := rank_cnt hso.nd (go_self hso.nd)
    refine ⟨_, rfl, _, rfl, t, s, ks, rank s s [], rfl, ⟨ht2, hso, asc_of hks.lt hsp⟩, hrk, fun G5 b' s' g5 nb' hb' hgo hrk' => ?_⟩
    obtain rfl : s' = s := rank_inj hso.nd hgo (go_self hso.nd) hrk'
    refine ⟨_, rfl, _, rfl, _, rfl, by show 2 ≤ sizeLine; decide, fun kp nkp => ?_⟩
    have s6 := same_upd (o := .tup [.ref t, .int ((rank s' s' [] : Nat) : Int)]) nkp
    have sA := sg'.trans (g5.trans s6)
    have hR6 : Paired (RowIs (upd G5 kp (.tup [.ref t, .int ((rank s' s' [] : Nat) : Int)])) ks) L es2 := Paired.mapP hR4 fun _ _ z => z.keep (KeepB.of sA)
    obtain ⟨a', hv, ha'⟩ := (rows_val hks.lt hR6 hperm hsp).2 hsm
    refine ⟨B, kp, es2, nuK ks s', .ref a', rfl, rfl, (hB4.keep sA).rd, keyA_num upd_same (ht2.keep (g5.trans s6)), hv, ?_⟩
    refine ⟨_, _, dp_ints (SqL.of (s6 _ _ hb')), dp_ints (SqL.of ha'), shaped_ints _, shaped_ints _, _, rfl, ?_⟩
    rw [eqv_ints, decide_eq_true rfl]
    refine iteF ?_
    exact ⟨_, _, _, rfl, sA⟩
  · obtain ⟨x6, x7, x9, rfl, sg'⟩ := h
    exact ⟨_, _, _, _, _, _, _, _, _, rfl, smH.trans sg'⟩
end
end T1
namespace T1
open PySem PySem.Spec PyProof.Rows L2 TK BstM DatI
section
variable {P : Program} {w : World} {K : PySem.W.Frag} {mg : Str → Option Value} {base : Heap}
abbrev sPool : Stmt := topS 40
theorem scPool : FnScope ["_law_script", "_law_k", "_law_cell", "_law_size", "_law_seed"] ["_law_script", "_law_k"] (defScope sPool) := ⟨rfl, rfl, rfl, by decide +kernel, rfl, by decide +kernel, by decide +kernel⟩
theorem ok_pool (h : Has K mg "_law_pool" sPool) (T : Names mg) : OkE P w K mg base 1 "_law_pool" ["_law_script", "_law_k"] (spPool K) := by
  refine h.ok scPool (fun _ _ _ _ _ _ us hl => match us, hl with | [_, _], _ => rfl) (fun vs H Q E h => ?_) (fun f cdv A outer s H vs Q E hr h => ?_)
  · obtain ⟨a, ns, j, rfl, _⟩ := h
    rfl
  · obtain ⟨a, ns, j, rfl, hS, hl, hj, q⟩ := h
    refine ⟨_, pss_cons (ps_set (i := 2) scPool.nd rfl (.inl rfl) pe_int)
      (pss_cons (ps_if (pt_cmpR op_lt (pv 1) (pe_callB call_len_seq (by rfl) T.len PySem.boot_len (pa_cons (pv 0) pa_nil)) (nomark _))
        (pss_one (ps_set (i := 2) scPool.nd rfl (.inl rfl) (pe_ix ix_list (pv 0) (pv 1) (fun _ _ => rfl)))) pss_nil)
      (pss_cons (ps_set (i := 3) scPool.nd rfl (.inl rfl) (pe_callB call_abs (by rfl) T.abs (by decide +kernel) (pa_cons (pv 2) pa_nil)))
      (pss_cons (ps_set (i := 4) scPool.nd rfl (.inl rfl) (pe_op op_mod (pe_op op_mul (pe_op op_add (pe_op op_add (pe_op op_mod (pv 3) pe_int) (pe_op op_mul pe_int (pv 1))) pe_int) pe_int) pe_int))
      (pss_one (ps_ret (pe_lst (pa_cons (pe_op op_mul (pv 3) (pe_callTy call_int1 (by rfl) T.int (by decide +kernel) (pa_cons (pe_cmpR op_ge (pv 3) (pe_op op_pow pe_int pe_int) (nomark _)) pa_nil))) (pa_cons (pv 4) pa_nil)))))))), ?_⟩
    have ab : ∀ c : Int, 0 ≤ (if c < 0 then -c else c) := fun c => by split <;> omega
    have seed : ∀ s : Int, 0 ≤ s → Pool (s * (if decide ((10 : Int) ^ (18 : Int).toNat ≤ s) = true then 1 else 0)) ((s % 2147483629 + 7919 * (j : Int) + 31) * 48271 % 2147483647) := fun s h => by
      refine ⟨?_, Int.emod_nonneg _ (by decide), Int.emod_lt_of_pos _ (by decide)⟩
      split
      · omega
      · omega
    refine ⟨_, rfl, .ref a, rfl, a, _, rfl, .inl hS, _, _, rfl, rfl, _, rfl, ite2 (fun e => ?_) (fun e => ?_)⟩
    · have hjl : j < ns.length := by
        have := of_decide_eq_true e
        rw [List.length_map] at this
        omega
      refine ⟨.ref a, rfl, _, rfl, a, _, _, .int ns[j], rfl, rfl, hS, atI_nat (j := j) (by rw [List.getElem?_map, List.getElem?_eq_getElem hjl]; rfl), ?_⟩
      refine ⟨_, rfl, _, rfl, ?_⟩
      refine ⟨_, rfl, _, _, rfl, rfl, (by show (0 : Int) < 2147483629; decide), _, rfl, _, _, rfl, rfl, .inl ⟨by decide, by decide⟩, _, _, rfl, rfl, _, _, rfl, rfl, _, _, rfl, rfl, .inr ⟨by decide, by decide⟩, _, _, rfl, rfl, (by show (0 : Int) < 2147483647; decide), ?_⟩
      refine ⟨_, rfl, _, rfl, _, _, rfl, rfl, ⟨by decide, by decide, by decide⟩, _, _, rfl, rfl, .inr ⟨_, rfl, _, _, rfl, rfl, .inr ?_, _, rfl, by show 2 ≤ sizeLine; decide, fun p np => ?_⟩⟩
      · exact b01 _
      · exact q _ p (same_upd np) np ⟨_, _, upd_same, seed _ (ab _)⟩
    · refine ⟨_, rfl, _, rfl, ?_⟩
      refine ⟨_, rfl, _, _, rfl, rfl, (by show (0 : Int) < 2147483629; decide), _, rfl, _, _, rfl, rfl, .inl ⟨by decide, by decide⟩, _, _, rfl, rfl, _, _, rfl, rfl, _, _, rfl, rfl, .inr ⟨by decide, by decide⟩, _, _, rfl, rfl, (by show (0 : Int) < 2147483647; decide), ?_⟩
      refine ⟨_, rfl, _, rfl, _, _, rfl, rfl, ⟨by decide, by decide, by decide⟩, _, _, rfl, rfl, .inr ⟨_, rfl, _, _, rfl, rfl, .inr ?_, _, rfl, by show 2 ≤ sizeLine; decide, fun p np => ?_⟩⟩
      · exact b01 _
      · exact q _ p (same_upd np) np ⟨_, _, upd_same, seed _ (ab _)⟩
end
end T1
namespace T1
open PySem PySem.Spec PyProof.Rows L2 TK BstM DatI
section
variable {P : Program} {w : World} {K : PySem.W.Frag} {mg : Str → Option Value} {base : Heap}
abbrev sDraw : Stmt := topS 41
theorem scDraw : FnScope ["_law_pool_here", "_law_count", "_law_found"] ["_law_pool_here", "_law_count"] (defScope sDraw) := ⟨rfl, rfl, rfl, by decide +kernel, rfl, by decide +kernel, by decide +kernel⟩
theorem ok_draw (h : Has K mg "_law_draw" sDraw) (T : Names mg) : OkE P w K mg base 1 "_law_draw" ["_law_pool_here", "_law_count"] spDraw := by
  refine h.ok scDraw (fun _ _ _ _ _ _ us hl => match us, hl with | [_, _], _ => rfl) (fun vs H Q E h => ?_) (fun f cdv A outer s H vs Q E hr h => ?_)
  · obtain ⟨p, c, rfl, _⟩ := h
    rfl
  · obtain ⟨p, c, rfl, ⟨x, y, hp, ⟨x0, y0, y1⟩⟩, c0, c1, q⟩ := h
    refine ⟨_, pss_cons (ps_if (pt_cmpR op_gt (pe_ix ix_list (pv 0) pe_int (fun _ _ => rfl)) pe_int (nomark _))
        (pss_cons (ps_set (i := 2) scDraw.nd rfl (.inl rfl) (pe_op op_mod (pe_ix ix_list (pv 0) pe_int (fun _ _ => rfl)) (pv 1)))
        (pss_cons (ps_asg (pe_op op_fdivW (pe_ix ix_list (pv 0) pe_int (fun _ _ => rfl)) (pv 1)) (pg_sub (pv 0) pe_int set_list))
        (pss_one (ps_ret (pv 2))))) pss_nil)
      (pss_cons (ps_asg (pe_op op_mod (pe_op op_add (pe_op op_mul (pe_ix ix_list (pv 0) pe_int (fun _ _ => rfl)) pe_int) pe_int) pe_int) (pg_sub (pv 0) pe_int set_list))
      (pss_one (ps_ret (pe_op op_mod (pe_op op_fdiv (pe_op op_mod (pe_op op_mul (pe_ix ix_list (pv 0) pe_int (fun _ _ => rfl)) (pe_ix ix_list (pv 0) pe_int (fun _ _ => rfl))) pe_int) pe_int) (pv 1))))), ?_⟩
    refine ⟨.ref p, rfl, p, _, _, .int x, rfl, rfl, SqL.of hp, atI_nat (j := 0) rfl, _, _, rfl, rfl, _, rfl, ite2 (fun e => ?_) (fun e => ?_)⟩
    · refine ⟨.ref p, rfl, p, _, _, .int x, rfl, rfl, SqL.of hp, atI_nat (j := 0) rfl, _, rfl, _, _, rfl, rfl, c0, ?_⟩
      refine ⟨.ref p, rfl, p, _, _, .int x, rfl, rfl, SqL.of hp, atI_nat (j := 0) rfl, _, rfl, _, _, rfl, rfl, wide_div (b := 64) c0 (by omega) (by decide) (by decide), ?_⟩
      refine ⟨.ref p, rfl, p, _, _, 0, rfl, rfl, hp, rfl, ?_⟩
      refine ⟨_, rfl, ?_⟩
      exact q _ _ (Kp.upd ⟨Int.ediv_nonneg x0 (Int.le_of_lt c0), y0, y1⟩) (Int.emod_nonneg _ (by omega)) (Int.emod_lt_of_pos _ c0)
    · refine ⟨.ref p, rfl, p, _, _, .int y, rfl, rfl, SqL.of hp, atI_nat (j := 1) rfl, _, _, rfl, rfl, .inr ⟨by decide, by decide⟩, _, _, rfl, rfl, _, _, rfl, rfl, (by show (0 : Int) < 2147483647; decide), ?_⟩
      have hy0 : 0 ≤ (y * 48271 + 11) % 2147483647 := Int.emod_nonneg _ (by decide)
      have hy1 : (y * 48271 + 11) % 2147483647 < 2147483647 := Int.emod_lt_of_pos _ (by decide)
      refine ⟨.ref p, rfl, p, _, _, 1, rfl, rfl, hp, rfl, ?_⟩
      have hp2 : (upd H p (.lst ([V.int x, V.int y].set 1 (.int ((y * 48271 + 11) % 2147483647))))) p = some (.lst [.int x, .int ((y * 48271 + 11) % 2147483647)]) := upd_same
      refine ⟨.ref p, rfl, p, _, _, .int ((y * 48271 + 11) % 2147483647), rfl, rfl, SqL.of hp2, atI_nat (j := 1) rfl, .ref p, rfl, p, _, _, .int ((y * 48271 + 11) % 2147483647), rfl, rfl, SqL.of hp2, atI_nat (j := 1) rfl, _, _, rfl, rfl, .inl ⟨by omega, by omega⟩, _, _, rfl, rfl, (by show (0 : Int) < 2147483629; decide), _, _, rfl, rfl, ⟨by decide, by decide⟩, _, rfl, _, _, rfl, rfl, c0, ?_⟩
      exact q _ _ (Kp.upd ⟨x0, hy0, hy1⟩) (Int.emod_nonneg _ (by omega)) (Int.emod_lt_of_pos _ c0)
end
end T1
namespace T1
open PySem PySem.Spec PyProof.Rows L2 TK BstM DatI
section
variable {P : Program} {w : World} {K : PySem.W.Frag} {mg : Str → Option Value} {base : Heap}
abbrev sKeys : Stmt := topS 42
theorem scKeys : FnScope ["_law_pool_here", "_law_many", "_law_spread", "_law_key", "_law_found", "_law_turn"] ["_law_pool_here", "_law_many"] (defScope sKeys) := ⟨rfl, rfl, rfl, by decide +kernel, rfl, by decide +kernel, by decide +kernel⟩
theorem ok_keys (h : Has K mg "_law_keys" sKeys) (hD : OkE P w K mg base 1 "_law_draw" ["_law_pool_here", "_law_count"] spDraw) (T : Names mg) : OkE P w K mg base 2 "_law_keys" ["_law_pool_here", "_law_many"] spKeys := by
  obtain ⟨fD, dD, OD⟩ := hD
  refine h.ok scKeys (fun _ _ _ _ _ _ us hl => match us, hl with | [_, _], _ => rfl) (fun vs H Q E h => ?_) (fun f cdv A outer s H vs Q E hr h => ?_)
  · obtain ⟨p, n, rfl, _⟩ := h
    rfl
  · obtain ⟨p, n, rfl, hp, hn, q⟩ := h
    refine ⟨_, pss_cons (ps_set (i := 2) scKeys.nd rfl (.inl rfl) (pe_ix ix_list (pe_lst (pa_cons pe_int (pa_cons pe_int (pa_cons pe_int (pa_cons (pe_op op_pow pe_int pe_int) (pa_cons (pe_op op_pow pe_int pe_int) pa_nil))))))
        (pe_callO OD hr (pa_cons (pv 0) (pa_cons pe_int pa_nil))) (fun _ _ => rfl)))
      (pss_cons (ps_set (i := 3) scKeys.nd rfl (.inl rfl) (pe_ix ix_list (pe_lst (pa_cons pe_int (pa_cons (pe_un un_neg pe_int) (pa_cons (pe_op op_pow pe_int pe_int) (pa_cons (pe_un un_neg (pe_op op_pow pe_int pe_int)) (pa_cons (pe_un un_neg pe_int) pa_nil))))))
        (pe_callO OD hr (pa_cons (pv 0) (pa_cons pe_int pa_nil))) (fun _ _ => rfl)))
      (pss_cons (ps_set (i := 3) scKeys.nd rfl (.inl rfl) (pe_op op_add (pv 3) (pe_callO OD hr (pa_cons (pv 0) (pa_cons
        (pe_ix ix_list (pe_lst (pa_cons pe_int (pa_cons pe_int (pa_cons (pe_op op_pow pe_int pe_int) pa_nil)))) (pe_callO OD hr (pa_cons (pv 0) (pa_cons pe_int pa_nil))) (fun _ _ => rfl)) pa_nil)))))
      (pss_cons (ps_set (i := 4) scKeys.nd rfl (.inl rfl) (pe_lst pa_nil))
      (pss_cons (ps_for PassesOwn.never rfl (pi_range1 rfl T.range (pa_cons (pv 1) pa_nil)) (pg_name (i := 5) scKeys.nd rfl (Or.inl rfl))
        (pss_cons (ps_expr (pe_bm PySem.F.plainAttrs_list PySem.F.slot_list_append PySem.F.type_list_append mt_append (pv 4) (pa_cons (pv 3) pa_nil)))
        (pss_one (ps_set (i := 3) scKeys.nd rfl (.inl rfl) (pe_op op_add (pe_op op_add (pv 3) pe_int) (pe_callO OD hr (pa_cons (pv 0) (pa_cons (pv 2) pa_nil))))))))
      (pss_cons (ps_if (PW.pt (pw_and (pt_cmpR op_eq (pe_callO OD hr (pa_cons (pv 0) (pa_cons pe_int pa_nil))) pe_int (nomark _)) (pw_and1 (pt_cmpR (op_neD hr.units) (pv 4) (pe_lst pa_nil) (nomark _)))))
        (pss_one (ps_asg (pe_op op_pow pe_int pe_int) (pg_sub (pv 4) (pe_un un_neg pe_int) set_list))) pss_nil)
      (pss_one (ps_ret (pv 4)))))))), ?_⟩
    -- the spread
    refine ⟨_, _, rfl, rfl, ⟨by decide, by decide, by decide⟩, _, _, rfl, rfl, ⟨by decide, by decide, by decide⟩, by show 5 ≤ sizeLine; decide, fun l1 n1 => ?_⟩
    have k1 := Kp.new (o := .lst [V.int 1, V.int 2, V.int 5, V.int (10 ^ (6 : Int).toNat), V.int (10 ^ (16 : Int).toNat)]) hp n1
    have l1p : l1 ≠ p := by obtain ⟨x, y, e, _⟩ := hp; exact (ne_of_none e n1).symm
    refine ⟨_, rfl, p, 5, rfl, k1.1, by decide, by decide, fun H1 r1 kd1 r10 r11 => ?_⟩
    obtain ⟨v1, e1, v10, v11⟩ := pick5a r1 r10 r11
    refine ⟨l1, _, _, .int v1, rfl, rfl, SqL.of (kd1.2 _ _ l1p upd_same), e1, ?_⟩
    have K1 := k1.trans kd1
    -- the first key
    refine ⟨_, rfl, _, _, rfl, rfl, ⟨by decide, by decide, by decide⟩, _, _, rfl, rfl, ⟨by decide, by decide, by decide⟩, _, rfl, _, rfl, by show 5 ≤ sizeLine; decide, fun l2 n2 => ?_⟩
    have k2 := Kp.new (o := .lst [V.int 0, V.int (-3), V.int (10 ^ (17 : Int).toNat), V.int (-(10 ^ (18 : Int).toNat)), V.int (-17)]) K1.1 n2
    have l2p : l2 ≠ p := by obtain ⟨x, y, e, _⟩ := K1.1; exact (ne_of_none e n2).symm
    refine ⟨_, rfl, p, 5, rfl, k2.1, by decide, by decide, fun H2 r2 kd2 r20 r21 => ?_⟩
    obtain ⟨v2, e2, v20, v21⟩ := pick5b r2 r20 r21
    refine ⟨l2, _, _, .int v2, rfl, rfl, SqL.of (kd2.2 _ _ l2p upd_same), e2, ?_⟩
    have K2 := K1.trans (k2.trans kd2)
    refine ⟨_, rfl, _, rfl, _, _, rfl, rfl, ⟨by decide, by decide, by decide⟩, by show 3 ≤ sizeLine; decide, fun l3 n3 => ?_⟩
    have k3 := Kp.new (o := .lst [V.int 1, V.int 10, V.int (10 ^ (15 : Int).toNat)]) K2.1 n3
    have l3p : l3 ≠ p := by obtain ⟨x, y, e, _⟩ := K2.1; exact (ne_of_none e n3).symm
    refine ⟨_, rfl, p, 3, rfl, k3.1, by decide, by decide, fun H3 r3 kd3 r30 r31 => ?_⟩
    obtain ⟨v3, e3, v30, v31⟩ := pick3 r3 r30 r31
    refine ⟨l3, _, _, .int v3, rfl, rfl, SqL.of (kd3.2 _ _ l3p upd_same), e3, ?_⟩
    have K3 := K2.trans (k3.trans kd3)
    refine ⟨p, v3, rfl, K3.1, by omega, by omega, fun H4 r4 kd4 r40 r41 => ⟨_, _, rfl, rfl, ?_⟩⟩
    have K4 := K3.trans kd4
    -- found = []
    refine ⟨Nat.zero_le _, fun L nL => ?_⟩
    have nL0 : H L = none := K4.free hp nL
    have Lp : L ≠ p := by obtain ⟨x, y, e, _⟩ := K4.1; exact (ne_of_none e nL).symm
    have K5 : Kp p H (upd H4 L (.lst [])) := K4.trans (Kp.new K4.1 nL)
    refine ⟨_, rfl, n, rfl, by omega, by omega, ?_⟩
    refine for_range (lo := 0) (n := n) (fun i σ H' => ∃ (c : Int) (ks : List Int) (y5 : Option V), σ = [some (.ref p), some (.int n), some (.int v1), some (.int c), some (.ref L), y5] ∧ Kp p H H' ∧ H' L = some (.lst (ks.map V.int)) ∧ ks.length = i ∧ i ≤ n ∧ ks.Pairwise (· < ·) ∧ (∀ k ∈ ks, -(10 ^ 18) ≤ k ∧ k < c) ∧ -(10 ^ 18) ≤ c ∧ c ≤ 10 ^ 17 + 10 ^ 15 + i * 10 ^ 16)
      ⟨v2 + r4, [], none, rfl, K5, by rw [upd_same]; rfl, rfl, Nat.zero_le _, List.Pairwise.nil, fun k hk => (nomatch hk), by omega, by omega⟩ (fun i σ H' hi h => ?_) (fun σ H' h => ?_)
    · obtain ⟨c, ks, y5, rfl, kp, hL, hkl, _, hlt, hb, c0, c1⟩ := h
      refine ⟨_, rfl, .inl ⟨rfl, _, .inl (.inl hL)⟩, _, rfl, L, _, _, rfl, rfl, hL, ?_, ?_⟩
      · rw [List.length_map, hkl]
        exact small1000 (by omega)
      · have kp2 := kp.put (o := .lst (ks.map V.int ++ [.int c])) nL0 Lp
        refine ⟨_, rfl, _, _, rfl, rfl, _, rfl, _, rfl, p, v1, rfl, kp2.1, by omega, by omega, fun H5 r5 kd5 r50 r51 => ⟨_, _, rfl, rfl, c + 1 + r5, ks ++ [c], _, rfl, kp2.trans kd5, ?_, ?_, hi, ?_, fun k hk => ?_, ?_, ?_⟩⟩
        · rw [kd5.2 _ _ Lp upd_same, List.map_append]
          rfl
        · rw [List.length_append, hkl]
          rfl
        · rw [List.pairwise_append]
          refine ⟨hlt, List.pairwise_singleton _ _, fun a ha b hb' => ?_⟩
          rw [List.mem_singleton] at hb'
          subst hb'
          exact (hb a ha).2
        · rcases List.mem_append.mp hk with hk | hk
          · have := hb k hk
            omega
          · rw [List.mem_singleton] at hk
            subst hk
            omega
        · omega
        · omega
    · obtain ⟨c, ks, y5, rfl, kp, hL, hkl, _, hlt, hb, c0, c1⟩ := h
      have hks : Keys ks := ⟨hlt, fun k hk => by have := hb k hk; unfold InR; omega⟩
      refine ⟨_, rfl, p, 4, rfl, kp.1, by decide, by decide, fun H5 r5 kd5 r50 r51 => ?_⟩
      have kp5 := kp.trans kd5
      have hL5 : H5 L = some (.lst (ks.map V.int)) := kd5.2 _ _ Lp hL
      refine ⟨rfl, _, rfl, ite2 (fun e => ?_) (fun e => ?_)⟩
      · -- found != []
        refine ⟨_, rfl, Nat.zero_le _, fun l6 n6 => ?_⟩
        have s6 : Same H5 (upd H5 l6 (.lst [])) := same_upd n6
        have hL6 := s6 _ _ hL5
        have kp6 := kp5.same s6
        refine ⟨_, _, dp_ints (SqL.of hL6), dp_ints (ns := []) (SqL.of upd_same), shaped_ints _, shaped_ints _, _, rfl, ?_⟩
        rw [eqv_ints]
        refine ite2 (fun e2 => ?_) (fun e2 => ?_)
        · have hne : ks ≠ [] := fun z => by rw [z] at e2; exact absurd e2 (by decide)
          have hl0 : 0 < ks.length := List.length_pos_iff.mpr hne
          refine ⟨_, _, rfl, rfl, ⟨by decide, by decide, by decide⟩, _, rfl, _, rfl, L, _, _, ks.length - 1, rfl, rfl, hL6, ?_, ?_⟩
          · unfold ixN
            rw [if_neg (by decide), List.length_map, if_pos (by omega)]
            exact congrArg some (by omega)
          · refine ⟨_, rfl, q _ L (ks.set (ks.length - 1) (10 ^ 18)) (kp6.put nL0 Lp) nL0 Lp ?_ (keys_last hks (fun k hk => by have := hb k hk; omega) hl0) (by rw [List.length_set, hkl])⟩
            rw [upd_same, List.map_set]
            rfl
        · exact ⟨_, rfl, q _ L ks kp6 nL0 Lp hL6 hks hkl⟩
      · exact ⟨_, rfl, q _ L ks kp5 nL0 Lp hL5 hks hkl⟩
end
end T1
namespace T1
open PySem PySem.Spec PyProof.Rows L2 TK BstM DatI
section
variable {P : Program} {w : World} {K : PySem.W.Frag} {mg : Str → Option Value} {base : Heap}
abbrev sPerms : Stmt := topS 43
abbrev nPerms : List Str := ["_law_keys_here", "_law_found", "_law_turn", "_law_longer", "_law_some", "_law_key"]
theorem scPerms : FnScope nPerms ["_law_keys_here"] (defScope sPerms) := ⟨rfl, rfl, rfl, by decide +kernel, rfl, by decide +kernel, by decide +kernel⟩
theorem ok_perms (h : Has K mg "_law_permutations" sPerms) (T : Names mg) : OkE P w K mg base 1 "_law_permutations" ["_law_keys_here"] (spPerms K) := by
  refine h.ok scPerms (fun _ _ _ _ _ _ us hl => match us, hl with | [_], _ => rfl) (fun vs H Q E h => ?_) (fun f cdv A outer s H vs Q E hr h => ?_)
  · obtain ⟨a, ms, rfl, _⟩ := h
    rfl
  · obtain ⟨a, ms, rfl, hS, hmn, h6, q⟩ := h
    refine ⟨_, pss_cons (ps_set (i := 1) scPerms.nd rfl (.inl rfl) (pe_lst (pa_cons (pe_lst pa_nil) pa_nil)))
      (pss_cons (ps_for PassesOwn.never rfl (pi_range1 rfl T.range (pa_cons (pe_callB call_len_seq (by rfl) T.len PySem.boot_len (pa_cons (pv 0) pa_nil)) pa_nil)) (pg_name (i := 2) scPerms.nd rfl (.inl rfl))
        (pss_cons (ps_set (i := 3) scPerms.nd rfl (.inl rfl) (pe_lst pa_nil))
        (pss_cons (ps_for PassesOwn.never rfl (pi_list (pv 1)) (pg_name (i := 4) scPerms.nd rfl (.inr rfl))
          (pss_one (ps_set (i := 3) scPerms.nd rfl (.inl rfl) (pe_op op_cat (pv 3) (pe_lc (own := [("_law_key", 5)]) (g := gName 5) (tt := tTest (tOp (rIn K true) (tVar 5) (tVar 4))) (te := tOp rCat (tVar 4) (tLst (tCons (tVar 5) tNil))) rfl scPerms.nd (pi_list (pv 0)) (blkOk_by (N := nPerms) (sc := defScope sPerms) (by decide +kernel))
            (fun _ _ _ _ _ => pg_name (i := 5) scPerms.nd rfl (.inl rfl)) (fun _ _ _ _ _ => pts_one (pt_cmpR (op_notIn_seqK (K := K) rfl) (pv 5) (pv 4) (by rfl))) (fun _ _ _ _ _ => pe_op op_cat (pv 4) (pe_lst (pa_cons (pv 5) pa_nil))))))))
        (pss_one (ps_set (i := 1) scPerms.nd rfl (.inl rfl) (pv 3))))))
      (pss_one (ps_ret (pv 1)))), ?_⟩
    refine ⟨Nat.zero_le _, fun e0 ne0 => ⟨by show 1 ≤ sizeLine; decide, fun b0 nb0 => ?_⟩⟩
    have s1 : Same H (upd H e0 (.lst [])) := same_upd ne0
    have he0 : (upd H e0 (.lst [])) e0 = some (.lst []) := upd_same
    generalize upd H e0 (.lst []) = H1 at s1 he0 nb0 ⊢
    have s2 : Same H1 (upd H1 b0 (.lst [.ref e0])) := same_upd nb0
    have hb0 : (upd H1 b0 (.lst [.ref e0])) b0 = some (.lst [.ref e0]) := upd_same
    have nb00 := s1.free nb0
    generalize upd H1 b0 (.lst [.ref e0]) = H2 at s2 hb0 ⊢
    have s12 := s1.trans s2
    refine ⟨_, rfl, a, _, rfl, .inl (s12.seq hS), ((ms.length : Nat) : Int), by rw [List.length_map], by omega, by omega, ?_⟩
    refine for_range (lo := 0) (n := ms.length) (fun t σ H' => ∃ y2 y3 y4 b as, σ = [some (.ref a), some (.ref b), y2, y3, y4, none] ∧ Same H H' ∧ H b = none ∧ H' b = some (.lst (as.map V.ref)) ∧ ListsAt H' as (layer ms t) ∧ ∀ c ∈ as, H c = none) ⟨_, _, _, b0, [e0], rfl, s12, nb00, hb0, .cons (s2 _ _ he0) .nil, fun c hc => by rw [List.mem_singleton.mp hc]; exact ne0⟩ (fun t σ F0 hi h => ?_) (fun σ H' h => ?_)
    · obtain ⟨y2, y3, y4, b, as, rfl, sm, nb, hb, hA, nas⟩ := h
      have hal : as.length = (layer ms t).length := Paired.length hA
      refine ⟨Nat.zero_le _, fun c0 nc0 => ?_⟩
      have sc : Same F0 (upd F0 c0 (.lst [])) := same_upd nc0
      have hc0 : (upd F0 c0 (.lst [])) c0 = some (.lst []) := upd_same
      generalize upd F0 c0 (.lst []) = F1 at sc hc0 ⊢
      refine ⟨_, rfl, b, rfl, ⟨_, SqL.of (sc _ _ hb)⟩, ?_⟩
      refine for_list (K := K) (a := b) (xs := as.map V.ref) (fun j σ G => ∃ y4 c cs, σ = [some (.ref a), some (.ref b), some (.int (0 + (t : Int))), some (.ref c), y4, none] ∧ Same F0 G ∧ F0 c = none ∧ G c = some (.lst (cs.map V.ref)) ∧ ListsAt G cs (((layer ms t).take j).flatMap (longer ms)) ∧ ∀ x ∈ cs, F0 x = none) ⟨_, c0, [], rfl, sc, nc0, hc0, .nil, fun x hx => nomatch hx⟩ (fun j σ G _ h => ?_) (fun j x σ G hx h => ?_) (fun σ G h => ?_)
      · obtain ⟨_, _, _, _, sg, _⟩ := h
        exact SqL.of (sg _ _ hb)
      · obtain ⟨y4, c, cs, rfl, sg, nc, hc, hC, ncs⟩ := h
        have hj : j < as.length := by
          have := (List.getElem?_eq_some_iff.mp hx).1
          rw [List.length_map] at this
          exact this
        obtain rfl : x = .ref as[j] := by
          rw [List.getElem?_map, List.getElem?_eq_getElem hj] at hx
          exact (Option.some.inj hx).symm
        obtain ⟨o, ho, hao⟩ := paired_get hA (List.getElem?_eq_getElem hj)
        have hjl : j < (layer ms t).length := by omega
        have hts := take_snocA hjl
        rw [(List.getElem?_eq_some_iff.mp ho).2] at hts
        obtain ⟨ho1, ho2, ho3⟩ := layer_mem t o (List.mem_of_getElem? ho)
        have hpart := layer_part hmn h6 hi (j + 1)
        rw [hts, List.flatMap_append, List.length_append] at hpart
        have hcl : cs.length = (((layer ms t).take j).flatMap (longer ms)).length := Paired.length hC
        have hfm : ((layer ms t).take (j + 1)).flatMap (longer ms) = ((layer ms t).take j).flatMap (longer ms) ++ longer ms o := by
          rw [hts, List.flatMap_append, List.flatMap_cons, List.flatMap_nil, List.append_nil]
        have haG := sg _ _ hao
        have hSG := (sm.trans sg).seq hS
        generalize as[j] = ao at haG
        generalize ((layer ms t).take j).flatMap (longer ms) = pre at hC hcl hpart hfm
        -- one list more for each key
        refine ⟨_, rfl, _, rfl, a, rfl, ⟨_, hSG⟩, fun L nL => ?_⟩
        refine lc_list (xs := ms.map V.int) (fun i G2 => ∃ es : List Addr, Same G G2 ∧ i ≤ ms.length ∧ G2 L = some (.lst (es.map V.ref)) ∧ ListsAt G2 es (longer (ms.take i) o) ∧ (∀ x ∈ es, x ≠ L) ∧ ∀ x ∈ es, G x = none) ⟨[], same_upd nL, Nat.zero_le _, upd_same, .nil, (fun x hx => nomatch hx), fun x hx => nomatch hx⟩ (fun i G2 _ h => h.elim fun _ h => h.1.seq hSG) (fun i x G2 hx h => ?_) (fun G2 h => ?_)
        · obtain ⟨es, s2, _, hL, hE, nL2, nes⟩ := h
          have hi2 : i < ms.length := by
            have := (List.getElem?_eq_some_iff.mp hx).1
            rw [List.length_map] at this
            exact this
          obtain rfl : x = .int ms[i] := by
            rw [List.getElem?_map, List.getElem?_eq_getElem hi2] at hx
            exact (Option.some.inj hx).symm
          have hti := take_snocA hi2
          have hel : es.length ≤ i := by
            have := Paired.length hE
            unfold longer at this
            rw [List.length_map] at this
            have h1 := List.length_filter_le (fun k => !decide (k ∈ o)) (ms.take i)
            have h2 := List.length_take_le i ms
            omega
          generalize ms[i] = k at hti
          have hao2 := s2 _ _ haG
          refine ⟨rfl, ?_⟩
          refine ⟨_, rfl, _, rfl, ao, _, rfl, .inl (SqL.of hao2), rfl, flat_ints _, _, rfl, ?_⟩
          have e0 : (if true = true then !inV (V.int k) (o.map V.int) else inV (V.int k) (o.map V.int)) = !decide (k ∈ o) := by
            rw [if_pos rfl, show inV (V.int k) (o.map V.int) = decide (k ∈ o) from inV_ints (some k) o]
          rw [e0]
          by_cases hk : k ∈ o
          · rw [decide_eq_true hk]
            refine iteF ⟨es, s2, hi2, hL, ?_, nL2, nes⟩
            rw [hti]
            unfold longer at hE ⊢
            rw [List.filter_append]
            simp [hk]
            exact hE
          · rw [decide_eq_false hk]
            refine iteT ⟨_, rfl, _, rfl, by show 1 ≤ sizeLine; decide, fun u1 nu1 => ?_⟩
            have su1 := same_upd (o := .lst [.int k]) nu1
            have hu1 : (upd G2 u1 (.lst [.int k])) u1 = some (.lst [.int k]) := upd_same
            generalize upd G2 u1 (.lst [.int k]) = G3 at su1 hu1 ⊢
            refine ⟨ao, u1, _, _, rfl, rfl, su1 _ _ hao2, hu1, (by show (o.map V.int).length + 1 ≤ sizeLine; rw [List.length_map, ho2, sizeLine_eq]; omega), fun u2 nu2 => ?_⟩
            have su2 := same_upd (o := .lst (o.map V.int ++ [.int k])) nu2
            have hu2 : (upd G3 u2 (.lst (o.map V.int ++ [.int k]))) u2 = some (.lst (o.map V.int ++ [.int k])) := upd_same
            generalize upd G3 u2 (.lst (o.map V.int ++ [.int k])) = G4 at su2 hu2 ⊢
            have s24 := su1.trans su2
            have hL4 := s24 _ _ hL
            have u2L : u2 ≠ L := fun z => by rw [z, su1 _ _ hL] at nu2; cases nu2
            have nu20 : G u2 = none := s2.free (su1.free nu2)
            refine ⟨_, hL4, by rw [List.length_map]; exact small1000 (by omega), es ++ [u2], same_put (s2.trans s24) nL, hi2, by rw [upd_same, List.map_append]; rfl, ?_, fun x hx => ?_, fun x hx => ?_⟩
            · rw [hti]
              have el : longer (ms.take i ++ [k]) o = longer (ms.take i) o ++ [o ++ [k]] := by
                unfold longer
                rw [List.filter_append, List.map_append]
                simp [hk]
              rw [el]
              have keepA : ∀ {xs : List Addr} {ls : List (List Int)}, ListsAt G2 xs ls → (∀ c ∈ xs, c ≠ L) → ListsAt (upd G4 L (.lst (es.map V.ref ++ [.ref u2]))) xs ls := by
                intro xs ls hp
                induction hp with
                | nil => intro _; exact .nil
                | cons r t ih => intro hc; exact .cons (by rw [upd_ne (hc _ List.mem_cons_self)]; exact s24 _ _ r) (ih fun c h => hc c (List.mem_cons_of_mem _ h))
              refine paired_snoc (keepA hE nL2) ?_
              rw [upd_ne u2L, hu2, List.map_append]
              rfl
            · rcases List.mem_append.mp hx with hx | hx
              · exact nL2 x hx
              · rw [List.mem_singleton.mp hx]; exact u2L
            · rcases List.mem_append.mp hx with hx | hx
              · exact nes x hx
              · rw [List.mem_singleton.mp hx]; exact nu20
        obtain ⟨es, s2, _, hL, hE, nL2, nes⟩ := h
        rw [List.length_map, List.take_length] at hE
        have hel : es.length = (longer ms o).length := Paired.length hE
        refine ⟨c, L, _, _, rfl, rfl, s2 _ _ hc, hL, ?_, fun c2 nc2 => ?_⟩
        · rw [List.length_map, List.length_map, sizeLine_eq, hcl, hel]
          rw [List.flatMap_cons, List.flatMap_nil, List.append_nil] at hpart
          omega
        have s5 := same_upd (o := .lst (cs.map V.ref ++ es.map V.ref)) nc2
        refine ⟨_, c2, cs ++ es, rfl, sg.trans (s2.trans s5), sg.free (s2.free nc2), by rw [upd_same, List.map_append], ?_, fun x hx => ?_⟩
        · rw [hfm]
          exact paired_app (Paired.mapP hC fun x y z => s5 _ _ (s2 _ _ z)) (Paired.mapP hE fun x y z => s5 _ _ z)
        · rcases List.mem_append.mp hx with hx | hx
          · exact ncs x hx
          · exact sg.free (nes x hx)
      · obtain ⟨y4, c, cs, rfl, sg, nc, hc, hC, ncs⟩ := h
        rw [List.length_map, hal, List.take_length] at hC
        exact ⟨_, rfl, _, _, _, c, cs, rfl, sm.trans sg, sm.free nc, hc, hC, fun x hx => sm.free (ncs x hx)⟩
    · obtain ⟨y2, y3, y4, b, as, rfl, sm, nb, hb, hA, nas⟩ := h
      exact ⟨_, rfl, q _ b as sm nb hb hA nas⟩
end
end T1
namespace T1
open PySem PySem.Spec PyProof.Rows L2 TK BstM DatI
section
variable {P : Program} {w : World} {K : PySem.W.Frag} {mg : Str → Option Value} {base : Heap}
abbrev sInteger : Stmt := topS 10
theorem scInteger : FnScope ["candidate"] ["candidate"] (defScope sInteger) := ⟨rfl, rfl, rfl, by decide +kernel, rfl, by decide +kernel, by decide +kernel⟩
theorem ok_integer (h : Has K mg "is_integer" sInteger) (T : Names mg) : OkE P w K mg base 1 "is_integer" ["candidate"] (spInteger K) := by
  refine h.ok scInteger (fun _ _ _ _ _ _ us hl => match us, hl with | [_], _ => rfl) (fun vs H Q E h => ?_) (fun f cdv A outer s H vs Q E hr h => ?_)
  · obtain ⟨x, b, rfl, _⟩ := h
    rfl
  · obtain ⟨x, b, rfl, hk, q⟩ := h
    refine ⟨_, pss_one (ps_ret (pe_and (pe_callB call_isi (by rfl) T.isi (by decide +kernel) (pa_cons (pv 0) (pa_cons (pe_bltn (v := .ty "int") (by rfl) T.int (by decide +kernel) rfl) pa_nil)))
        (pe_one (pe_not (pe_callB call_isi (by rfl) T.isi (by decide +kernel) (pa_cons (pv 0) (pa_cons (pe_bltn (v := .ty "bool") (by rfl) T.bool (by decide +kernel) rfl) pa_nil))))))), ?_⟩
    cases hk with
    | int i =>
      refine ⟨.int i, rfl, .int i, .ty "int", _, _, true, rfl, .ty _, .base (.int i), kit_ty (by decide +kernel), _, rfl, iteT ?_⟩
      exact ⟨.int i, rfl, .int i, .ty "bool", _, _, false, rfl, .ty _, .base (.int i), kit_ty (by decide +kernel), _, rfl, q⟩
    | bl c =>
      refine ⟨.bl c, rfl, .bl c, .ty "int", _, _, true, rfl, .ty _, .base (.bl c), kit_ty (by decide +kernel), _, rfl, iteT ?_⟩
      exact ⟨.bl c, rfl, .bl c, .ty "bool", _, _, true, rfl, .ty _, .base (.bl c), kit_ty (by decide +kernel), _, rfl, q⟩
    | other ht kt =>
      exact ⟨x, rfl, x, .ty "int", _, _, false, rfl, .ty _, ht, kit_ty kt, _, rfl, iteF q⟩
end
end T1
namespace T1
open PySem PySem.Spec PyProof.Rows L2 TK BstM DatI
section
variable {P : Program} {w : World} {K : PySem.W.Frag} {mg : Str → Option Value} {base : Heap}
abbrev sWithin : Stmt := topS 11
theorem scWithin : FnScope ["candidate", "low", "high"] ["candidate", "low", "high"] (defScope sWithin) := ⟨rfl, rfl, rfl, by decide +kernel, rfl, by decide +kernel, by decide +kernel⟩
theorem ok_within (h : Has K mg "is_within" sWithin) (hI : OkE P w K mg base 1 "is_integer" ["candidate"] (spInteger K)) (T : Names mg) : OkE P w K mg base 2 "is_within" ["candidate", "low", "high"] (spWithin K) := by
  obtain ⟨fI, dI, OI⟩ := hI
  refine h.ok scWithin (fun _ _ _ _ _ _ us hl => match us, hl with | [_, _, _], _ => rfl) (fun vs H Q E h => ?_) (fun f cdv A outer s H vs Q E hr h => ?_)
  · obtain ⟨x, lo, hi, b, rfl, _⟩ := h
    rfl
  · obtain ⟨x, lo, hi, b, rfl, hk, q⟩ := h
    refine ⟨_, pss_one (ps_ret (pe_and (pe_callO OI hr (pa_cons (pv 0) pa_nil)) (pe_one (pe_chain op_le op_le (pv 1) (pv 0) (pv 2))))), ?_⟩
    cases hk with
    | int i =>
      refine ⟨_, rfl, _, _, rfl, .int i, _, rfl, iteT ?_⟩
      refine ⟨_, rfl, .int i, rfl, _, _, rfl, rfl, _, rfl, ite2 (fun e => ?_) (fun e => ?_)⟩
      · refine ⟨_, rfl, _, _, rfl, rfl, ?_⟩
        have h1 : lo ≤ i := of_decide_eq_true e
        have e2 : decide (lo ≤ i ∧ i ≤ hi) = decide (i ≤ hi) := decide_eq_decide.mpr ⟨fun z => z.2, fun z => ⟨h1, z⟩⟩
        rw [e2] at q
        exact q
      · have e2 : decide (lo ≤ i ∧ i ≤ hi) = false := decide_eq_false fun z => e (decide_eq_true z.1)
        rw [e2] at q
        exact q
    | bl c => exact ⟨_, rfl, _, _, rfl, .bl c, _, rfl, iteF q⟩
    | other ht kt => exact ⟨_, rfl, _, _, rfl, .other ht kt, _, rfl, iteF q⟩
end
end T1
namespace T1
open PySem PySem.Spec PyProof.Rows L2 TK BstM DatI
section
variable {P : Program} {w : World} {K : PySem.W.Frag} {mg : Str → Option Value} {base : Heap}
abbrev sIsKey : Stmt := topS 8
theorem scIsKey : FnScope ["candidate"] ["candidate"] (defScope sIsKey) := ⟨rfl, rfl, rfl, by decide +kernel, rfl, by decide +kernel, by decide +kernel⟩
theorem ok_isKey (h : Has K mg "is_key" sIsKey) (hW : OkE P w K mg base 2 "is_within" ["candidate", "low", "high"] (spWithin K)) (T : Names mg) : OkE P w K mg base 3 "is_key" ["candidate"] (spIsKey K) := by
  obtain ⟨fW, dW, OW⟩ := hW
  refine h.ok scIsKey (fun _ _ _ _ _ _ us hl => match us, hl with | [_], _ => rfl) (fun vs H Q E h => ?_) (fun f cdv A outer s H vs Q E hr h => ?_)
  · obtain ⟨x, b, rfl, _⟩ := h
    rfl
  · obtain ⟨x, b, rfl, hk, q⟩ := h
    obtain ⟨tk, mk⟩ := T.maxKey
    refine ⟨_, pss_one (ps_ret (pe_callO OW hr (pa_cons (pv 0) (pa_cons (pe_un un_neg (pe_glob (v := .int (10 ^ 18)) (by rfl) mk ⟨tk, rfl⟩)) (pa_cons (pe_glob (v := .int (10 ^ 18)) (by rfl) mk ⟨tk, rfl⟩) pa_nil))))), ?_⟩
    exact ⟨_, rfl, _, rfl, x, _, _, b, rfl, hk.within, q⟩
end
end T1
namespace T1
open PySem PySem.Spec PyProof.Rows L2 TK BstM DatI
section
variable {P : Program} {w : World} {K : PySem.W.Frag} {mg : Str → Option Value} {base : Heap}
abbrev sCheck : Stmt := topS 9
theorem scCheck : FnScope ["candidate", "seen", "position", "key"] ["candidate"] (defScope sCheck) := ⟨rfl, rfl, rfl, by decide +kernel, rfl, by decide +kernel, by decide +kernel⟩
theorem ok_check (h : Has K mg "check_order" sCheck) (hK : OkE P w K mg base 3 "is_key" ["candidate"] (spIsKey K)) (T : Names mg) : OkE P w K mg base 4 "check_order" ["candidate"] (spCheck K) := by
  obtain ⟨fK, dK, OK⟩ := hK
  refine h.ok scCheck (fun _ _ _ _ _ _ us hl => match us, hl with | [_], _ => rfl) (fun vs H Q E h => ?_) (fun f cdv A outer s H vs Q E hr h => ?_)
  · obtain ⟨a, ns, rfl, _⟩ := h
    rfl
  · obtain ⟨a, ns, rfl, ha, ho, q⟩ := h
    obtain ⟨tk, mk⟩ := T.maxKeys
    refine ⟨_, pss_cons (ps_if (PW.pt (pw_or (pt_not (pt_val (pe_callB call_isi (by rfl) T.isi (by decide +kernel) (pa_cons (pv 0) (pa_cons (pe_bltn (v := .ty "list") (by rfl) T.list (by decide +kernel) rfl) pa_nil)))))
        (pw_or1 (pt_cmpR op_gt (pe_callB call_len_seq (by rfl) T.len PySem.boot_len (pa_cons (pv 0) pa_nil)) (pe_glob (v := .int 40) (by rfl) mk ⟨tk, rfl⟩) (nomark _)))))
        (pss_one ps_never) pss_nil)
      (pss_cons (ps_set (i := 1) scCheck.nd rfl (.inl rfl) (pe_callTy0 cr_set0 (by rfl) T.set (by decide +kernel)))
      (pss_one (ps_for PassesOwn.never rfl (pi_enum (by rfl) T.enum (pa_cons (pv 0) pa_nil)) (pg_tup rfl (pgs_cons (pg_name (i := 2) scCheck.nd rfl (.inl rfl)) (pgs_cons (pg_name (i := 3) scCheck.nd rfl (.inl rfl)) pgs_nil)))
        (pss_cons (ps_if (PW.pt (pw_or (pt_not (pt_val (pe_callO OK hr (pa_cons (pv 3) pa_nil)))) (pw_or1 (pt_cmpR or_sin (pv 3) (pv 1) (by rfl))))) (pss_one ps_never) pss_nil)
          (pss_one (ps_expr (pe_sadd (pv 1) (pa_cons (pv 3) pa_nil)))))))), ?_⟩
    refine ⟨.ref a, rfl, .ref a, .ty "list", _, _, true, rfl, .ty _, .base (.lst ha), kit_ty (by decide +kernel), _, rfl, iteF ?_⟩
    refine ⟨.ref a, rfl, a, _, rfl, .inl (SqL.of ha), _, _, rfl, rfl, _, rfl, ?_⟩
    have hlen : ¬ (40 : Int) < ((ns.map V.int).length : Int) := by
      rw [List.length_map]
      have := ho.len
      omega
    rw [decide_eq_false hlen]
    refine iteF ?_
    refine ⟨rfl, fun p np => ?_⟩
    have s1 : Same H (upd H p (SetO w p (fun _ => false) 0)) := same_upd np
    refine ⟨.ref a, rfl, a, ns.map V.int, rfl, SqL.of (s1 _ _ ha), ?_⟩
    refine for_it (walk_enum (xs := ns.map V.int)) (fun i σ H' => ∃ y2 y3, σ = [some (.ref a), some (.ref p), y2, y3] ∧ Same H H' ∧ H' p = some (SetO w p (fun j => decide (j ∈ ns.take i)) i) ∧ i ≤ ns.length) ⟨none, none, rfl, s1, ?_, Nat.zero_le _⟩ (fun i σ H' _ h => ?_) (fun i x σ H1 H2 hi h y => ?_) (fun σ H' h => ?_)
    · rw [upd_same]
      refine congrArg (fun S => some (SetO w p S 0)) ?_
      funext j
      exact (decide_eq_false (by simp)).symm
    · obtain ⟨_, _, _, sm, _⟩ := h
      exact SqL.of (sm _ _ ha)
    · obtain ⟨y2, y3, rfl, sm, hp, hil⟩ := h
      obtain ⟨t, x1, x2, rfl, nt, rfl, e1, e2⟩ := y
      have hi' : i < ns.length := by rw [List.length_map] at hi; exact hi
      obtain rfl : x1 = .int (i : Nat) := (Option.some.inj e1).symm
      obtain rfl : x2 = .int ns[i] := by
        have e3 : (ns.map V.int)[i]? = some x2 := e2
        rw [List.getElem?_map, List.getElem?_eq_getElem hi'] at e3
        exact (Option.some.inj e3).symm
      have npt : p ≠ t := ne_of_none hp nt
      refine ⟨t, [.int (i : Nat), .int ns[i]], rfl, .inl (.inl upd_same), rfl, _, [.int ns[i]], rfl, _, [], rfl, rfl, ?_⟩
      refine ⟨_, rfl, _, _, rfl, .int _, ?_⟩
      rw [decide_eq_true (ho.rng _ (List.getElem_mem hi'))]
      refine ⟨_, rfl, iteF ?_⟩
      have hp2 : (upd H1 t (.tup [.int (i : Nat), .int ns[i]])) p = some (SetO w p (fun j => decide (j ∈ ns.take i)) i) := by
        rw [upd_ne npt]; exact hp
      have hnot : ¬ ns[i] ∈ ns.take i := fun z => by
        obtain ⟨j, hj, ej⟩ := List.mem_take_iff_getElem.mp z
        have hj' : j < ns.length := by omega
        have := (List.getElem_inj ho.nd).mp (show ns[j] = ns[i] from ej)
        omega
      refine ⟨_, rfl, _, rfl, _, _, _, _, rfl, rfl, hp2, _, rfl, ?_⟩
      rw [decide_eq_false hnot]
      refine iteF ?_
      refine ⟨_, rfl, ⟨_, _, _, rfl, hp2⟩, _, rfl, p, ns[i], _, _, rfl, rfl, hp2, ?_, some (.int (i : Nat)), some (.int ns[i]), rfl, ?_, ?_, hi'⟩
      · have := ho.len
        show i + 1 < 4096
        omega
      · exact same_put (Same.trans sm (same_upd nt)) np
      · rw [upd_same]
        have hS : (fun j => (decide (j ∈ ns.take i) || decide (j = ns[i]))) = fun j => decide (j ∈ ns.take (i + 1)) := by
          funext j
          rw [Bool.eq_iff_iff]
          simp only [Bool.or_eq_true, decide_eq_true_eq]
          rw [List.take_succ_eq_append_getElem hi', List.mem_append, List.mem_singleton]
        show some (SetO w p (fun j => (decide (j ∈ ns.take i) || decide (j = ns[i]))) (if decide (ns[i] ∈ ns.take i) = true then i else i + 1)) = _
        rw [hS, decide_eq_false hnot]
        rfl
    · obtain ⟨_, _, rfl, sm, _⟩ := h
      exact q _ sm
end
end T1
namespace T1
open PySem PySem.Spec PyProof.Rows L2 TK BstM DatI
section
variable {P : Program} {w : World} {K : PySem.W.Frag} {mg : Str → Option Value} {base : Heap}
abbrev sKAbove : Stmt := topS 13
theorem scKAbove : FnScope ["order", "key", "above", "low", "high", "other"] ["order", "key"] (defScope sKAbove) := ⟨rfl, rfl, rfl, by decide +kernel, rfl, by decide +kernel, by decide +kernel⟩
theorem ok_kAbove (h : Has K mg "keys_above" sKAbove) (T : Names mg) : OkE P w K mg base 1 "keys_above" ["order", "key"] (spKAbove K) := by
  refine h.ok scKAbove (fun _ _ _ _ _ _ us hl => match us, hl with | [_, _], _ => rfl) (fun vs H Q E h => ?_) (fun f cdv A outer s H vs Q E hr h => ?_)
  · obtain ⟨a, ns, k, rfl, _⟩ := h
    rfl
  · obtain ⟨a, ns, k, rfl, hS, ho, hk, q⟩ := h
    obtain ⟨tk, mk⟩ := T.maxKey
    refine ⟨_, pss_cons (ps_set (i := 2) scKAbove.nd rfl (.inl rfl) (pe_lst pa_nil))
      (pss_cons (ps_set (i := 3) scKAbove.nd rfl (.inl rfl) (pe_un un_neg (pe_glob (v := .int (10 ^ 18)) (by rfl) mk ⟨tk, rfl⟩)))
      (pss_cons (ps_set (i := 4) scKAbove.nd rfl (.inl rfl) (pe_glob (v := .int (10 ^ 18)) (by rfl) mk ⟨tk, rfl⟩))
      (pss_cons (ps_for PassesOwn.never rfl (pi_list (pe_slice sl_list (pv 0) po_none (po_some (pe_bm PySem.F.plainAttrs_list PySem.F.slot_list_index PySem.F.type_list_index mt_index (pv 0) (pa_cons (pv 1) pa_nil))))) (pg_name (i := 5) scKAbove.nd rfl (.inl rfl))
        (pss_one (ps_if (pt_chain op_le op_lt (pv 3) (pv 5) (pv 1))
          (pss_cons (ps_expr (pe_bm PySem.F.plainAttrs_list PySem.F.slot_list_append PySem.F.type_list_append mt_append (pv 2) (pa_cons (pv 5) pa_nil)))
          (pss_one (ps_set (i := 3) scKAbove.nd rfl (.inl rfl) (pv 5))))
          (pss_one (ps_if (pt_chain op_lt op_le (pv 1) (pv 5) (pv 4))
            (pss_cons (ps_expr (pe_bm PySem.F.plainAttrs_list PySem.F.slot_list_append PySem.F.type_list_append mt_append (pv 2) (pa_cons (pv 5) pa_nil)))
            (pss_one (ps_set (i := 4) scKAbove.nd rfl (.inl rfl) (pv 5)))) pss_nil)))))
      (pss_one (ps_ret (pv 2)))))), ?_⟩
    refine ⟨Nat.zero_le _, fun M nM => ?_⟩
    have sM : Same H (upd H M (.lst [])) := same_upd nM
    refine ⟨_, rfl, ?_⟩
    obtain ⟨j, hj, ej, hjv, hjn⟩ := ix_of ho.nd hk
    refine ⟨_, rfl, _, rfl, .inl ⟨rfl, _, sM.seq hS⟩, _, rfl, a, _, _, j, _, rfl, rfl, sM.seq hS, rfl, flat_ints _, hjv, (by show (k == k) = true; exact beq_self_eq_true k), hjn, (j : Int), rfl, a, _, rfl, sM.seq hS, fun L nL => ⟨L, rfl, ⟨_, SqL.of upd_same⟩, ?_⟩⟩
    rw [cut_map]
    have sL : Same (upd H M (.lst [])) (upd (upd H M (.lst [])) L (.lst ((ns.take j).map V.int))) := same_upd nL
    have hML : M ≠ L := fun e => by rw [← e, upd_same] at nL; cases nL
    -- the order is pre ++ k :: post
    have hsplit : ns = ns.take j ++ k :: ns.drop (j + 1) := by
      rw [← ej]
      rw [List.getElem_cons_drop, List.take_append_drop]
    have hfin : aboveOf ns k = (seen (ns.take j).reverse k).reverse := by
      have hnd := ho.nd
      rw [hsplit] at hnd
      have := aboveOf_mid hnd
      rw [← hsplit] at this
      exact this
    have hkr : ∀ t, k ∉ (ns.take j).take t := fun t z => by
      have h1 := List.mem_of_mem_take z
      obtain ⟨m, hm, em⟩ := List.mem_take_iff_getElem.mp h1
      have hm' : m < ns.length := by omega
      have := (List.getElem_inj ho.nd).mp (show ns[m] = ns[j] from em.trans ej.symm)
      omega
    have hpl : (ns.take j).length ≤ 40 := by
      have := ho.len
      rw [List.length_take]
      omega
    have hpn : (ns.take j).Nodup := ho.nd.sublist (List.take_sublist _ _)
    have hpr : ∀ x ∈ ns.take j, InR x := fun x hx => ho.rng x (List.mem_of_mem_take hx)
    generalize ns.take j = pre at hfin hkr hpl hpn hpr nL sL
    refine for_list (xs := pre.map V.int) (fun i σ H' => ∃ lo hi y5, σ = [some (.ref a), some (.int k), some (.ref M), some (.int lo), some (.int hi), y5] ∧ i ≤ pre.length ∧ Same H H' ∧ H' L = some (.lst (pre.map V.int)) ∧ H' M = some (.lst ((seen (pre.take i).reverse k).reverse.map V.int)) ∧ Nb (10 ^ 18) (pre.take i).reverse k lo hi)
      ⟨_, _, _, rfl, Nat.zero_le _, sM.trans sL, upd_same, by rw [upd_ne hML, upd_same]; rfl, by rw [List.take_zero]; exact Nb.nil _ _⟩ (fun i σ H' _ h => ?_) (fun i x σ H1 hx h => ?_) (fun σ H' h => ?_)
    · obtain ⟨_, _, _, _, _, _, hL, _⟩ := h
      exact SqL.of hL
    · obtain ⟨lo, hi, y5, rfl, _, sm, hL, hM, nb⟩ := h
      obtain ⟨hi', rfl⟩ := get_int hx
      have hts := take_rev hi'
      have hrn := nodup_take hpn i
      have hxr := not_in_take hpn hi'
      have hin := hpr pre[i] (List.getElem_mem hi')
      have hne : pre[i] ≠ k := fun e => hkr pre.length (by rw [List.take_length, ← e]; exact List.getElem_mem hi')
      have hkr' : k ∉ (pre.take i).reverse := fun z => hkr i (List.mem_reverse.mp z)
      have hsl : ((seen (pre.take i).reverse k).reverse.map V.int).length < sizeLine := by
        rw [List.length_map, List.length_reverse]
        have h1 := (seen_sub (pre.take i).reverse k).length_le
        rw [List.length_reverse] at h1
        have h2 := List.length_take_le i pre
        exact small1000 (by omega)
      generalize pre[i] = x at hts hxr hin hne
      have put : seen (x :: (pre.take i).reverse) k = x :: seen (pre.take i).reverse k → (upd H1 M (.lst ((seen (pre.take i).reverse k).reverse.map V.int ++ [.int x]))) M = some (.lst ((seen (pre.take (i + 1)).reverse k).reverse.map V.int)) := fun e => by
        rw [upd_same, hts, e, List.reverse_cons, List.map_append]
        rfl
      have hL2 : (upd H1 M (.lst ((seen (pre.take i).reverse k).reverse.map V.int ++ [.int x]))) L = some (.lst (pre.map V.int)) := by rw [upd_ne hML.symm]; exact hL
      have yes1 : lo ≤ x → x < k → _ := fun h1 h2 => nb_low nb hrn hkr' hxr hin.1 h1 h2
      have yes2 : x ≤ hi → k < x → _ := fun h1 h2 => nb_high nb hrn hkr' hxr hin.2 h1 h2
      have no := nb_none nb hrn hkr' hxr hne hin.1 hin.2
      refine ⟨_, rfl, _, rfl, _, _, rfl, rfl, _, rfl, ite2 (fun e1 => ?_) (fun e1 => ?_)⟩
      · refine ⟨_, rfl, _, _, rfl, rfl, _, rfl, ite2 (fun e2 => ?_) (fun e2 => ?_)⟩
        · obtain ⟨c1, c2⟩ := yes1 (of_decide_eq_true e1) (of_decide_eq_true e2)
          refine ⟨_, rfl, .inl ⟨rfl, _, SqL.of hM⟩, _, rfl, M, _, _, rfl, rfl, hM, hsl, ?_⟩
          exact ⟨_, rfl, _, _, _, rfl, hi', same_put sm nM, hL2, put c1, by rw [hts]; exact c2⟩
        · have n1 : ¬ (lo ≤ x ∧ x < k) := fun z => e2 (decide_eq_true z.2)
          refine ⟨_, rfl, _, rfl, _, _, rfl, rfl, _, rfl, ite2 (fun e3 => ?_) (fun e3 => ?_)⟩
          · refine ⟨_, rfl, _, _, rfl, rfl, _, rfl, ite2 (fun e4 => ?_) (fun e4 => ?_)⟩
            · obtain ⟨c1, c2⟩ := yes2 (of_decide_eq_true e4) (of_decide_eq_true e3)
              refine ⟨_, rfl, .inl ⟨rfl, _, SqL.of hM⟩, _, rfl, M, _, _, rfl, rfl, hM, hsl, ?_⟩
              exact ⟨_, rfl, _, _, _, rfl, hi', same_put sm nM, hL2, put c1, by rw [hts]; exact c2⟩
            · obtain ⟨c1, c2⟩ := no n1 (fun z => e4 (decide_eq_true z.2))
              exact ⟨_, _, _, rfl, hi', sm, hL, by rw [hts, c1]; exact hM, by rw [hts]; exact c2⟩
          · obtain ⟨c1, c2⟩ := no n1 (fun z => e3 (decide_eq_true z.1))
            exact ⟨_, rfl, iteF ⟨_, _, _, rfl, hi', sm, hL, by rw [hts, c1]; exact hM, by rw [hts]; exact c2⟩⟩
      · have n1 : ¬ (lo ≤ x ∧ x < k) := fun z => e1 (decide_eq_true z.1)
        refine ⟨_, rfl, iteF ?_⟩
        refine ⟨_, rfl, _, rfl, _, _, rfl, rfl, _, rfl, ite2 (fun e3 => ?_) (fun e3 => ?_)⟩
        · refine ⟨_, rfl, _, _, rfl, rfl, _, rfl, ite2 (fun e4 => ?_) (fun e4 => ?_)⟩
          · obtain ⟨c1, c2⟩ := yes2 (of_decide_eq_true e4) (of_decide_eq_true e3)
            refine ⟨_, rfl, .inl ⟨rfl, _, SqL.of hM⟩, _, rfl, M, _, _, rfl, rfl, hM, hsl, ?_⟩
            exact ⟨_, rfl, _, _, _, rfl, hi', same_put sm nM, hL2, put c1, by rw [hts]; exact c2⟩
          · obtain ⟨c1, c2⟩ := no n1 (fun z => e4 (decide_eq_true z.2))
            exact ⟨_, _, _, rfl, hi', sm, hL, by rw [hts, c1]; exact hM, by rw [hts]; exact c2⟩
        · obtain ⟨c1, c2⟩ := no n1 (fun z => e3 (decide_eq_true z.1))
          exact ⟨_, rfl, iteF ⟨_, _, _, rfl, hi', sm, hL, by rw [hts, c1]; exact hM, by rw [hts]; exact c2⟩⟩
    · obtain ⟨lo, hi, y5, rfl, _, sm, hL, hM, nb⟩ := h
      rw [List.length_map, List.take_length, ← hfin] at hM
      exact ⟨_, rfl, q H' M sm nM hM⟩
end
end T1
namespace T1
open PySem PySem.Spec PyProof.Rows L2 TK BstM DatI
section
variable {P : Program} {w : World} {K : PySem.W.Frag} {mg : Str → Option Value} {base : Heap}
abbrev sParentIn : Stmt := topS 14
theorem scParentIn : FnScope ["order", "key", "above"] ["order", "key"] (defScope sParentIn) := ⟨rfl, rfl, rfl, by decide +kernel, rfl, by decide +kernel, by decide +kernel⟩
theorem ok_parentIn (h : Has K mg "parent_in" sParentIn) (hM : OkE P w K mg base 1 "keys_above" ["order", "key"] (spKAbove K)) (T : Names mg) : OkE P w K mg base 2 "parent_in" ["order", "key"] (spParentIn K) := by
  obtain ⟨fM, dM, OM⟩ := hM
  refine h.ok scParentIn (fun _ _ _ _ _ _ us hl => match us, hl with | [_, _], _ => rfl) (fun vs H Q E h => ?_) (fun f cdv A outer s H vs Q E hr h => ?_)
  · obtain ⟨a, ns, k, rfl, _⟩ := h
    rfl
  · obtain ⟨a, ns, k, rfl, hS, ho, hk, q⟩ := h
    refine ⟨_, pss_cons (ps_set (i := 2) scParentIn.nd rfl (.inl rfl) (pe_callO OM hr (pa_cons (pv 0) (pa_cons (pv 1) pa_nil))))
      (pss_one (ps_ret (pe_ifExp (pt_truth (pv 2) (by intro _; rfl)) (pe_ix ix_list (pv 2) (pe_un un_neg pe_int) (fun _ _ => rfl)) pe_non))), ?_⟩
    refine ⟨_, rfl, _, rfl, a, ns, k, rfl, hS, ho, hk, fun H1 b s1 nb hb => ?_⟩
    have q1 := q H1 s1
    rw [parent_lastI ho.nd hk] at q1
    generalize aboveOf ns k = l at hb q1
    rcases List.eq_nil_or_concat l with rfl | ⟨l', x, rfl⟩
    · exact ⟨_, rfl, false, .inl ⟨_, SqL.of hb, rfl⟩, iteF q1⟩
    · rw [List.concat_eq_append] at hb q1
      rw [List.getLast?_concat] at q1
      refine ⟨_, rfl, true, .inl ⟨_, SqL.of hb, by simp⟩, iteT ?_⟩
      refine ⟨_, rfl, 1, rfl, b, _, -1, _, rfl, rfl, SqL.of hb, ?_, q1⟩
      rw [List.map_append]
      exact atI_last _ _
end
end T1
namespace T1
open PySem PySem.Spec PyProof.Rows L2 TK BstM DatI
section
variable {P : Program} {w : World} {K : PySem.W.Frag} {mg : Str → Option Value} {base : Heap}
abbrev sAfter : Stmt := topS 19
theorem scAfter : FnScope ["order", "key"] ["order"] (defScope sAfter) := ⟨rfl, rfl, rfl, by decide +kernel, rfl, by decide +kernel, by decide +kernel⟩
theorem ok_after (h : Has K mg "tree_after" sAfter) (hP : OkE P w K mg base 2 "parent_in" ["order", "key"] (spParentIn K)) (T : Names mg) : OkE P w K mg base 3 "tree_after" ["order"] (spAfter K) := by
  obtain ⟨fP, dP, OP⟩ := hP
  refine h.ok scAfter (fun _ _ _ _ _ _ us hl => match us, hl with | [_], _ => rfl) (fun vs H Q E h => ?_) (fun f cdv A outer s H vs Q E hr h => ?_)
  · obtain ⟨a, ns, rfl, _⟩ := h
    rfl
  · obtain ⟨a, ns, rfl, hS, ho, q⟩ := h
    refine ⟨_, pss_one (ps_ret (pe_callTy call_tuple_of (by rfl) T.tuple (by decide +kernel) (pa_cons
        (pe_lc (own := [("key", 1)]) (g := gName 1) (tt := tYes) rfl scAfter.nd (pi_list (pe_callB cr_sortedI (by rfl) T.sorted (by decide +kernel) (pa_cons (pv 0) pa_nil)))
          (blkOk_by (N := ["order", "key"]) (sc := defScope sAfter) (by decide +kernel)) (fun _ _ _ _ _ => pg_name (i := 1) scAfter.nd rfl (Or.inl rfl)) (fun _ _ _ _ _ => pts_nil)
          (fun _ _ _ _ _ => pe_tup (pa_cons (pv 1) (pa_cons (pe_callO OP hr (pa_cons (pv 0) (pa_cons (pv 1) pa_nil))) pa_nil)))) pa_nil))), ?_⟩
    refine ⟨_, rfl, a, ns, rfl, hS, fun ms sa perm asc nsa => ⟨sa, rfl, ⟨_, .inl (.inl upd_same)⟩, ?_⟩⟩
    intro D nD
    have hml : ms.length ≤ 40 := by rw [perm.length_eq]; exact ho.len
    have s3 : Same H (upd H sa (.lst (ms.map V.int))) := same_upd nsa
    refine lc_list (xs := ms.map V.int) (fun i H' => ∃ as : List Addr, as.length = i ∧ Same (upd H sa (.lst (ms.map V.int))) H' ∧ H' D = some (.lst (as.map V.ref)) ∧ PairsAt H' as (pairsOf ns (ms.take i)))
      ⟨[], rfl, same_upd nD, by rw [upd_same]; rfl, .nil⟩ (fun i H' _ h => ?_) (fun i x H' hx h => ?_) (fun H' h => ?_)
    · obtain ⟨_, _, sm, _⟩ := h
      exact SqL.of (sm _ _ upd_same)
    · obtain ⟨as, hl, sm, hD, hP⟩ := h
      obtain ⟨hi, rfl⟩ := get_int hx
      have hin : ms[i] ∈ ns := perm.mem_iff.mp (List.getElem_mem hi)
      refine ⟨rfl, ?_⟩
      unfold tYes
      refine iteT ?_
      refine ⟨_, rfl, _, rfl, _, rfl, a, ns, ms[i], rfl, (s3.trans sm).seq hS, ho, hin, fun H1 s1 => ⟨by show 2 ≤ sizeLine; decide, fun t nt => ⟨as.map V.ref, ?_, ?_, as ++ [t], ?_, ?_, ?_, ?_⟩⟩⟩
      · rw [upd_ne (ne_of_none (s1 _ _ hD) nt)]
        exact s1 _ _ hD
      · rw [List.length_map, hl]
        exact small1000 (by omega)
      · rw [List.length_append, hl]
        rfl
      · exact same_put ((sm.trans s1).trans (same_upd nt)) nD
      · rw [upd_same, List.map_append]
        rfl
      · have ht : (ms.take (i + 1)) = ms.take i ++ [ms[i]] := List.take_succ_eq_append_getElem hi
        unfold pairsOf
        rw [ht, List.map_append]
        have hD1 := s1 _ _ hD
        have nDt : t ≠ D := fun e => by rw [← e] at hD1; rw [hD1] at nt; cases nt
        refine paired_snoc (Paired.mapP hP fun b y z => ?_) ?_
        · have z1 := s1 _ _ z
          have hbD : b ≠ D := ne_of z1 hD1 (fun z => nomatch z)
          rw [upd_ne hbD, upd_ne (ne_of_none z1 nt)]
          exact z1
        · rw [upd_ne nDt, upd_same]
    · obtain ⟨as, _, sm, hD, hP⟩ := h
      rw [List.length_map, List.take_length] at hP
      refine ⟨D, _, rfl, .inl ⟨SqL.of hD, fun l nl => ?_⟩⟩
      have s12 : Same H H' := s3.trans sm
      exact q _ l ms (s12.trans (same_upd nl)) (s12.free nl) ⟨perm, asc⟩ ⟨as, upd_same, hP.keep (same_upd nl)⟩
end
end T1
namespace T1
open PySem PySem.Spec PyProof.Rows L2 TK BstM DatI
section
variable {P : Program} {w : World} {K : PySem.W.Frag} {mg : Str → Option Value} {base : Heap}
abbrev sBuild : Stmt := topS 16
theorem scBuild : FnScope ["order"] ["order"] (defScope sBuild) := ⟨rfl, rfl, rfl, by decide +kernel, rfl, by decide +kernel, by decide +kernel⟩
theorem ok_build (h : Has K mg "build" sBuild) (hC : OkE P w K mg base 4 "check_order" ["candidate"] (spCheck K)) (hA : OkE P w K mg base 3 "tree_after" ["order"] (spAfter K)) (T : Names mg) : OkE P w K mg base 5 "build" ["order"] (spBuild K) := by
  obtain ⟨fC, dC, OC⟩ := hC
  obtain ⟨fA, dA, OA⟩ := hA
  refine h.ok scBuild (fun _ _ _ _ _ _ us hl => match us, hl with | [_], _ => rfl) (fun vs H Q E h => ?_) (fun f cdv A outer s H vs Q E hr h => ?_)
  · obtain ⟨a, ns, rfl, _⟩ := h
    rfl
  · obtain ⟨a, ns, rfl, ha, ho, q⟩ := h
    refine ⟨_, pss_cons (ps_expr (pe_callO OC hr (pa_cons (pv 0) pa_nil))) (pss_one (ps_ret (pe_callO OA hr (pa_cons (pv 0) pa_nil)))), ?_⟩
    refine ⟨_, rfl, a, ns, rfl, ha, ho, fun H1 s1 => ?_⟩
    exact ⟨_, rfl, a, ns, rfl, SqL.of (s1 _ _ ha), ho, fun H2 p ms s2 np hm ht => q H2 p ms (s1.trans s2) (s1.free np) hm ht⟩
end
end T1
namespace T1
open PySem PySem.Spec PyProof.Rows L2 TK BstM DatI
section
variable {P : Program} {w : World} {K : PySem.W.Frag} {mg : Str → Option Value} {base : Heap}
abbrev sPair : Stmt := topS 21
theorem scPair : FnScope ["candidate", "key", "parent"] ["candidate"] (defScope sPair) := ⟨rfl, rfl, rfl, by decide +kernel, rfl, by decide +kernel, by decide +kernel⟩
theorem ok_pair (h : Has K mg "is_pair" sPair) (hK : OkE P w K mg base 3 "is_key" ["candidate"] (spIsKey K)) (T : Names mg) : OkE P w K mg base 4 "is_pair" ["candidate"] spPair := by
  obtain ⟨fK, dK, OK⟩ := hK
  refine h.ok scPair (fun _ _ _ _ _ _ us hl => match us, hl with | [_], _ => rfl) (fun vs H Q E h => ?_) (fun f cdv A outer s H vs Q E hr h => ?_)
  · obtain ⟨q, x, rfl, _⟩ := h
    rfl
  · obtain ⟨q, x, rfl, hq, hk, hp, k⟩ := h
    refine ⟨_, pss_cons (ps_if (PW.pt (pw_or (pt_not (pt_val (pe_callB call_isi (by rfl) T.isi (by decide +kernel) (pa_cons (pv 0) (pa_cons (pe_bltn (v := .ty "tuple") (by rfl) T.tuple (by decide +kernel) rfl) pa_nil)))))
        (pw_or1 (pt_cmpR op_ne (pe_callB call_len_seq (by rfl) T.len PySem.boot_len (pa_cons (pv 0) pa_nil)) pe_int (nomark _)))))
        (pss_one (ps_ret pe_bl)) pss_nil)
      (pss_cons (ps_asg (pv 0) (pg_tup rfl (pgs_cons (pg_name (i := 1) scPair.nd rfl (.inl rfl)) (pgs_cons (pg_name (i := 2) scPair.nd rfl (.inl rfl)) pgs_nil))))
      (pss_one (ps_ret (pe_and (pe_callO OK hr (pa_cons (pv 1) pa_nil)) (pe_one (pe_or (pe_cmpR op_isN (pv 2) pe_non (nomark _)) (pe_one (pe_callO OK hr (pa_cons (pv 2) pa_nil))))))))), ?_⟩
    refine ⟨_, rfl, _, .ty "tuple", _, _, true, rfl, .ty _, .base (.tup hq), kit_ty (by decide +kernel), _, rfl, iteF ?_⟩
    refine ⟨_, rfl, q, _, rfl, .inr (SqT.of hq), rfl, _, rfl, iteF ?_⟩
    refine ⟨_, rfl, q, _, rfl, SqT.of hq, rfl, _, _, rfl, _, _, rfl, rfl, ?_⟩
    refine ⟨_, rfl, _, _, rfl, .int _, ?_⟩
    rw [decide_eq_true hk]
    refine ⟨_, rfl, iteT ?_⟩
    obtain ⟨key, o⟩ := x
    cases o with
    | none => exact ⟨_, rfl, rfl, _, rfl, iteT k⟩
    | some m =>
      refine ⟨_, rfl, rfl, _, rfl, iteF ?_⟩
      refine ⟨_, rfl, _, _, rfl, .int _, ?_⟩
      rw [decide_eq_true (hp m rfl)]
      exact k
end
end T1
namespace T1
open PySem PySem.Spec PyProof.Rows L2 TK BstM DatI
section
variable {P : Program} {w : World} {K : PySem.W.Frag} {mg : Str → Option Value} {base : Heap}
abbrev sKeysIn : Stmt := topS 22
theorem scKeysIn : FnScope ["pairs", "key", "parent"] ["pairs"] (defScope sKeysIn) := ⟨rfl, rfl, rfl, by decide +kernel, rfl, by decide +kernel, by decide +kernel⟩
theorem ok_keysIn (h : Has K mg "keys_in" sKeysIn) (T : Names mg) : OkE P w K mg base 1 "keys_in" ["pairs"] spKeysIn := by
  refine h.ok scKeysIn (fun _ _ _ _ _ _ us hl => match us, hl with | [_], _ => rfl) (fun vs H Q E h => ?_) (fun f cdv A outer s H vs Q E hr h => ?_)
  · obtain ⟨p, l, rfl, _⟩ := h
    rfl
  · obtain ⟨p, l, rfl, ht, hlen, k⟩ := h
    refine ⟨_, pss_one (ps_ret (pe_lc (own := [("key", 1), ("parent", 2)]) (g := gTup K 2 (gCons (gName 1) (gCons (gName 2) gNil))) (tt := tYes) rfl scKeysIn.nd (pi_tup (pv 0)) (blkOk_by (N := ["pairs", "key", "parent"]) (sc := defScope sKeysIn) (by decide +kernel))
        (fun _ _ _ _ _ => pg_tup rfl (pgs_cons (pg_name (i := 1) scKeysIn.nd rfl (.inl rfl)) (pgs_cons (pg_name (i := 2) scKeysIn.nd rfl (.inl rfl)) pgs_nil))) (fun _ _ _ _ _ => pts_nil) (fun _ _ _ _ _ => pv 1))), ?_⟩
    obtain ⟨as, hp, hP⟩ := id ht
    have hal : as.length = l.length := Paired.length hP
    refine ⟨_, rfl, p, rfl, ⟨_, SqT.of hp⟩, fun D2 nD2 => ?_⟩
    refine lc_tup (xs := as.map V.ref) (fun i H' => Same H H' ∧ i ≤ l.length ∧ H' D2 = some (.lst (((l.take i).map (·.1)).map V.int))) ⟨same_upd nD2, Nat.zero_le _, by rw [upd_same]; rfl⟩ (fun i H' _ h => SqT.of (h.1 _ _ hp)) (fun i x H' hx h => ?_) (fun H2 h => ?_)
    · obtain ⟨sm, _, hD2⟩ := h
      rw [List.getElem?_map] at hx
      obtain ⟨b, hb, rfl⟩ := Option.map_eq_some_iff.mp hx
      obtain ⟨y, hy, hb2⟩ := paired_get hP hb
      obtain ⟨hi, ey⟩ := List.getElem?_eq_some_iff.mp hy
      have hts := take_snocA hi
      rw [ey] at hts
      refine ⟨b, _, rfl, SqT.of (sm _ _ hb2), rfl, _, _, rfl, _, _, rfl, rfl, rfl, ?_⟩
      unfold tYes
      refine iteT ?_
      refine ⟨_, rfl, _, hD2, ?_, same_put sm nD2, hi, ?_⟩
      · rw [List.length_map, List.length_map]
        have := List.length_take_le i l
        exact small1000 (by omega)
      · rw [upd_same, hts, List.map_append, List.map_append]
        rfl
    obtain ⟨s2, _, hD2⟩ := h
    rw [List.length_map, hal, List.take_length] at hD2
    exact k H2 D2 s2 nD2 hD2
end
end T1
namespace T1
open PySem PySem.Spec PyProof.Rows L2 TK BstM DatI
section
variable {P : Program} {w : World} {K : PySem.W.Frag} {mg : Str → Option Value} {base : Heap}
abbrev sForm : Stmt := topS 20
theorem scForm : FnScope ["candidate", "keys", "pair", "low", "high"] ["candidate"] (defScope sForm) := ⟨rfl, rfl, rfl, by decide +kernel, rfl, by decide +kernel, by decide +kernel⟩
theorem ok_form (h : Has K mg "has_tree_form" sForm) (hP : OkE P w K mg base 4 "is_pair" ["candidate"] spPair) (hKI : OkE P w K mg base 1 "keys_in" ["pairs"] spKeysIn) (T : Names mg) : OkE P w K mg base 5 "has_tree_form" ["candidate"] spForm := by
  obtain ⟨fP, dP, OP⟩ := hP
  obtain ⟨fKI, dKI, OKI⟩ := hKI
  refine h.ok scForm (fun _ _ _ _ _ _ us hl => match us, hl with | [_], _ => rfl) (fun vs H Q E h => ?_) (fun f cdv A outer s H vs Q E hr h => ?_)
  · obtain ⟨p, l, rfl, _⟩ := h
    rfl
  · obtain ⟨p, l, rfl, ht, hPs, k⟩ := h
    obtain ⟨tk, mk⟩ := T.maxKeys
    refine ⟨_, pss_cons (ps_if (PW.pt (pw_or (pt_not (pt_val (pe_callB call_isi (by rfl) T.isi (by decide +kernel) (pa_cons (pv 0) (pa_cons (pe_bltn (v := .ty "tuple") (by rfl) T.tuple (by decide +kernel) rfl) pa_nil)))))
        (pw_or1 (pt_cmpR op_gt (pe_callB call_len_seq (by rfl) T.len PySem.boot_len (pa_cons (pv 0) pa_nil)) (pe_glob (v := .int 40) (by rfl) mk ⟨tk, rfl⟩) (nomark _)))))
        (pss_one (ps_ret pe_bl)) pss_nil)
      (pss_cons (ps_if (pt_not (pt_val (pe_callB (cr_all rfl) (by rfl) T.all (by decide +kernel) (pa_cons
          (pe_lc (own := [("pair", 2)]) (g := gName 2) (tt := tYes) rfl scForm.nd (pi_tup (pv 0)) (blkOk_by (N := ["candidate", "keys", "pair", "low", "high"]) (sc := defScope sForm) (by decide +kernel)) (fun _ _ _ _ _ => pg_name (i := 2) scForm.nd rfl (.inl rfl)) (fun _ _ _ _ _ => pts_nil)
            (fun _ _ _ _ _ => pe_callO OP hr (pa_cons (pv 2) pa_nil))) pa_nil))))
        (pss_one (ps_ret pe_bl)) pss_nil)
      (pss_cons (ps_set (i := 1) scForm.nd rfl (.inl rfl) (pe_callO OKI hr (pa_cons (pv 0) pa_nil)))
      (pss_one (ps_ret (pe_callB (cr_all rfl) (by rfl) T.all (by decide +kernel) (pa_cons
        (pe_lc (own := [("low", 3), ("high", 4)]) (g := gTup K 2 (gCons (gName 3) (gCons (gName 4) gNil))) (tt := tYes) rfl scForm.nd (pi_zip (by rfl) T.zip (pa_cons (pv 1) (pa_cons (pe_slice sl_list (pv 1) (po_some pe_int) po_none) pa_nil))) (blkOk_by (N := ["candidate", "keys", "pair", "low", "high"]) (sc := defScope sForm) (by decide +kernel))
          (fun _ _ _ _ _ => pg_tup rfl (pgs_cons (pg_name (i := 3) scForm.nd rfl (.inl rfl)) (pgs_cons (pg_name (i := 4) scForm.nd rfl (.inl rfl)) pgs_nil))) (fun _ _ _ _ _ => pts_nil) (fun _ _ _ _ _ => pe_cmpR op_lt (pv 3) (pv 4) (nomark _))) pa_nil)))))), ?_⟩
    obtain ⟨as, hp, hP⟩ := id ht
    have hal : as.length = l.length := Paired.length hP
    refine ⟨_, rfl, _, .ty "tuple", _, _, true, rfl, .ty _, .base (.tup hp), kit_ty (by decide +kernel), _, rfl, iteF ?_⟩
    refine ⟨_, rfl, p, _, rfl, .inr (SqT.of hp), _, _, rfl, rfl, _, rfl, ?_⟩
    have hlen : ¬ (40 : Int) < ((as.map V.ref).length : Int) := by
      rw [List.length_map, hal]
      have := hPs.len
      omega
    rw [decide_eq_false hlen]
    refine iteF ?_
    -- all([is_pair(..)])
    refine ⟨_, rfl, p, rfl, ⟨_, SqT.of hp⟩, fun D nD => ?_⟩
    refine lc_tup (xs := as.map V.ref) (fun i H' => Same H H' ∧ i ≤ l.length ∧ H' D = some (.lst ((List.replicate i true).map V.bl))) ⟨same_upd nD, Nat.zero_le _, by rw [upd_same]; rfl⟩ (fun i H' _ h => SqT.of (h.1 _ _ hp)) (fun i x H' hx h => ?_) (fun H1 h => ?_)
    · obtain ⟨sm, _, hD⟩ := h
      rw [List.getElem?_map] at hx
      obtain ⟨b, hb, rfl⟩ := Option.map_eq_some_iff.mp hx
      obtain ⟨y, hy, hb2⟩ := paired_get hP hb
      obtain ⟨hi, ey⟩ := List.getElem?_eq_some_iff.mp hy
      have hym : y ∈ l := by rw [← ey]; exact List.getElem_mem hi
      refine ⟨rfl, ?_⟩
      unfold tYes
      refine iteT ?_
      refine ⟨_, rfl, b, y, rfl, sm _ _ hb2, hPs.key y hym, hPs.par y hym, _, hD, ?_, same_put sm nD, hi, ?_⟩
      · rw [List.length_map, List.length_replicate]
        have := hPs.len
        exact small1000 (by omega)
      · rw [upd_same, List.replicate_succ', List.map_append]
        rfl
    obtain ⟨s1, _, hD⟩ := h
    rw [List.length_map, hal] at hD
    refine ⟨D, _, rfl, SqL.of hD, _, rfl, ?_⟩
    have hall : (List.replicate l.length true).all id = true := by
      rw [List.all_eq_true]
      intro x hx
      rw [List.eq_of_mem_replicate hx]
      rfl
    rw [hall]
    refine iteF ?_
    refine ⟨_, rfl, p, l, rfl, ht.keep s1, hPs.len, fun H2 D2 s2 nD2 hD2 => ?_⟩
    generalize hks : l.map (·.1) = ks at hD2 k ⊢
    have hkl : ks.length ≤ 40 := by
      rw [← hks, List.length_map]
      exact hPs.len
    -- zip(keys, keys[1:])
    refine ⟨_, rfl, _, rfl, 1, rfl, D2, _, rfl, SqL.of hD2, fun c nc => ?_⟩
    have s3 : Same H2 (upd H2 c (.lst (cutV (ks.map V.int) (some 1) none))) := same_upd nc
    have hcut : cutV (ks.map V.int) (some 1) none = (ks.drop 1).map V.int := by
      unfold cutV
      rw [show HT.sIx (ks.map V.int).length 0 (some 1) = min 1 (ks.map V.int).length from HT.sIx_nat _ 0 1, HT.sIx_none, List.map_drop, List.length_map]
      cases ks with
      | nil => rfl
      | cons x r =>
        rw [show min 1 (x :: r).length = 1 by rw [List.length_cons]; omega]
        rw [List.take_of_length_le (by simp)]
    rw [hcut] at s3 ⊢
    have hc3 : (upd H2 c (.lst ((ks.drop 1).map V.int))) c = some (.lst ((ks.drop 1).map V.int)) := upd_same
    generalize hH3 : upd H2 c (.lst ((ks.drop 1).map V.int)) = H3 at s3 hc3 ⊢
    refine ⟨D2, c, ks.map V.int, (ks.drop 1).map V.int, rfl, SqL.of (s3 _ _ hD2), SqL.of hc3, fun D3 nD3 => ?_⟩
    have hzl : ks.length - 1 = min (ks.map V.int).length ((ks.drop 1).map V.int).length := by
      rw [List.length_map, List.length_map, List.length_drop]
      omega
    refine lc_it (walk_zip hzl) (fun i H' => Same H3 H' ∧ i ≤ ks.length - 1 ∧ H' D3 = some (.lst (((ascN ks).take i).map V.bl))) ⟨same_upd nD3, Nat.zero_le _, by rw [upd_same]; rfl⟩ (fun i H' _ h => ⟨SqL.of (h.1 _ _ (s3 _ _ hD2)), SqL.of (h.1 _ _ hc3)⟩) (fun i x H' H'' hi h y => ?_) (fun H' h => ?_)
    · obtain ⟨sm, _, hD3⟩ := h
      obtain ⟨t, x1, x2, rfl, nt, rfl, e1, e2⟩ := y
      have hi1 : i < ks.length := by omega
      have hi2 : i + 1 < ks.length := by omega
      obtain rfl : x1 = .int ks[i] := by
        have e3 : (ks.map V.int)[i]? = some x1 := e1
        rw [List.getElem?_map, List.getElem?_eq_getElem hi1] at e3
        exact (Option.some.inj e3).symm
      obtain rfl : x2 = .int ks[i + 1] := by
        have e3 : ((ks.drop 1).map V.int)[i]? = some x2 := e2
        rw [List.getElem?_map, List.getElem?_drop, Nat.add_comm 1 i, List.getElem?_eq_getElem hi2] at e3
        exact (Option.some.inj e3).symm
      have hD4 : (upd H' t (.tup [.int ks[i], .int ks[i + 1]])) D3 = some (.lst (((ascN ks).take i).map V.bl)) := by rw [upd_ne (ne_of_none hD3 nt)]; exact hD3
      refine ⟨t, _, rfl, SqT.of upd_same, rfl, _, _, rfl, _, _, rfl, rfl, rfl, ?_⟩
      unfold tYes
      refine iteT ?_
      have hal2 : (ascN ks).length = ks.length - 1 := by unfold ascN; rw [List.length_map, List.length_range]
      refine ⟨_, rfl, _, rfl, _, _, rfl, rfl, _, hD4, ?_, same_put (sm.trans (same_upd nt)) nD3, hi, ?_⟩
      · rw [List.length_map]
        have := List.length_take_le i (ascN ks)
        exact small1000 (by omega)
      · rw [upd_same, take_snocA (l := ascN ks) (by omega), List.map_append]
        have : (ascN ks)[i]'(by omega) = decide (ks[i] < ks[i + 1]) := by
          unfold ascN
          rw [List.getElem_map, List.getElem_range, List.getElem?_eq_getElem hi1, List.getElem?_eq_getElem hi2]
          rfl
        rw [this]
        rfl
    · obtain ⟨sm, _, hD3⟩ := h
      have hal2 : (ascN ks).length = ks.length - 1 := by unfold ascN; rw [List.length_map, List.length_range]
      rw [List.take_of_length_le (by omega)] at hD3
      refine ⟨D3, _, rfl, SqL.of hD3, ?_⟩
      exact k H' (s1.trans (s2.trans (s3.trans sm)))
end
end T1
namespace T1
open PySem PySem.Spec PyProof.Rows L2 TK BstM DatI
section
variable {P : Program} {w : World} {K : PySem.W.Frag} {mg : Str → Option Value} {base : Heap}
abbrev sUnder : Stmt := topS 27
theorem scUnder : FnScope ["pairs", "parents", "key", "parent"] ["pairs", "parents"] (defScope sUnder) := ⟨rfl, rfl, rfl, by decide +kernel, rfl, by decide +kernel, by decide +kernel⟩
theorem ok_under (h : Has K mg "keys_under" sUnder) (T : Names mg) : OkE P w K mg base 1 "keys_under" ["pairs", "parents"] spUnder := by
  refine h.ok scUnder (fun _ _ _ _ _ _ us hl => match us, hl with | [_, _], _ => rfl) (fun vs H Q E h => ?_) (fun f cdv A outer s H vs Q E hr h => ?_)
  · obtain ⟨p, q, l, pv, rfl, _⟩ := h
    rfl
  · obtain ⟨p, q, l, pv, rfl, ht, hlen, hq, hpv, k⟩ := h
    refine ⟨_, pss_one (ps_ret (pe_lc (own := [("key", 2), ("parent", 3)]) (g := gTup K 2 (gCons (gName 2) (gCons (gName 3) gNil))) (tt := tTest (tOp (rIn K false) (tVar 3) (tVar 1))) rfl scUnder.nd (pi_tup (L2.pv 0)) (blkOk_by (N := ["pairs", "parents", "key", "parent"]) (sc := defScope sUnder) (by decide +kernel))
      (fun _ _ _ _ _ => pg_tup rfl (pgs_cons (pg_name (i := 2) scUnder.nd rfl (.inl rfl)) (pgs_cons (pg_name (i := 3) scUnder.nd rfl (.inl rfl)) pgs_nil)))
      (fun _ _ _ _ _ => pts_one (pt_cmpR op_in_seq (L2.pv 3) (L2.pv 1) (by rfl))) (fun _ _ _ _ _ => L2.pv 2))), ?_⟩
    obtain ⟨as, hp, hP⟩ := ht
    have hal : as.length = l.length := Paired.length hP
    refine ⟨_, rfl, p, rfl, ⟨_, SqT.of hp⟩, fun D nD => ?_⟩
    have sD : Same H (upd H D (.lst [])) := same_upd nD
    refine lc_tup (xs := as.map V.ref) (fun i H' => Same H H' ∧ i ≤ l.length ∧ H' D = some (.lst ((under (l.take i) pv).map V.int))) ⟨sD, Nat.zero_le _, by rw [upd_same]; rfl⟩ (fun i H' _ h => SqT.of (h.1 _ _ hp)) (fun i x H' hx h => ?_) (fun H' h => ?_)
    · obtain ⟨sm, _, hD⟩ := h
      rw [List.getElem?_map] at hx
      obtain ⟨b, hb, rfl⟩ := Option.map_eq_some_iff.mp hx
      obtain ⟨y, hy, hb2⟩ := paired_get hP hb
      have hi : i < l.length := (List.getElem?_eq_some_iff.mp hy).1
      have hts := take_snocA hi
      rw [(List.getElem?_eq_some_iff.mp hy).2] at hts
      refine ⟨b, _, rfl, SqT.of (sm _ _ hb2), rfl, _, _, rfl, _, _, rfl, rfl, rfl, ?_⟩
      refine ⟨_, rfl, _, rfl, q, pv, rfl, .inl (SqL.of (sm _ _ hq)), flat_o _, hpv, _, rfl, ite2 (fun e => ?_) (fun e => ?_)⟩
      · refine ⟨_, rfl, _, hD, ?_, same_put sm nD, hi, ?_⟩
        · have h1 := List.length_filter_le (fun x : Int × Option Int => inV (oV x.2) pv) (l.take i)
          have h2 := List.length_take_le i l
          unfold under
          rw [List.length_map, List.length_map]
          exact small1000 (by omega)
        · have e' : inV (oV y.2) pv = true := e
          rw [upd_same, hts]
          unfold under
          rw [List.filter_append, List.map_append, List.map_append]
          simp [e']
      · have e' : inV (oV y.2) pv = false := Bool.eq_false_iff.mpr e
        refine ⟨sm, hi, ?_⟩
        rw [hts]
        unfold under
        rw [List.filter_append, List.map_append, List.map_append]
        unfold under at hD
        simp [e', hD]
    · obtain ⟨sm, _, hD⟩ := h
      rw [List.length_map, hal, List.take_length] at hD
      exact k H' D sm nD hD
end
end T1
namespace T1
open PySem PySem.Spec PyProof.Rows L2 TK BstM DatI
section
variable {P : Program} {w : World} {K : PySem.W.Frag} {mg : Str → Option Value} {base : Heap}
abbrev sRows : Stmt := topS 25
theorem scRows : FnScope ["pairs", "rows", "row"] ["pairs"] (defScope sRows) := ⟨rfl, rfl, rfl, by decide +kernel, rfl, by decide +kernel, by decide +kernel⟩
theorem ok_rows (h : Has K mg "rows_of" sRows) (hU : OkE P w K mg base 1 "keys_under" ["pairs", "parents"] spUnder) (T : Names mg) : OkE P w K mg base 2 "rows_of" ["pairs"] spRows := by
  obtain ⟨fU, dU, OU⟩ := hU
  refine h.ok scRows (fun _ _ _ _ _ _ us hl => match us, hl with | [_], _ => rfl) (fun vs H Q E h => ?_) (fun f cdv A outer s H vs Q E hr h => ?_)
  · obtain ⟨p, ns, ms, rfl, _⟩ := h
    rfl
  · obtain ⟨p, ns, ms, rfl, ht, q⟩ := h
    refine ⟨_, pss_cons (ps_set (i := 1) scRows.nd rfl (.inl rfl) (pe_lst pa_nil))
      (pss_cons (ps_set (i := 2) scRows.nd rfl (.inl rfl) (pe_callO OU hr (pa_cons (pv 0) (pa_cons (pe_lst (pa_cons pe_non pa_nil)) pa_nil))))
      (pss_cons (ps_while PassesOwn.never (pt_truth (pv 2) (by intro _; rfl))
        (pss_cons (ps_expr (pe_bm PySem.F.plainAttrs_list PySem.F.slot_list_append PySem.F.type_list_append mt_append (pv 1) (pa_cons (pv 2) pa_nil)))
        (pss_one (ps_set (i := 2) scRows.nd rfl (.inl rfl) (pe_callO OU hr (pa_cons (pv 0) (pa_cons (pv 2) pa_nil)))))))
      (pss_one (ps_ret (pv 1))))), ?_⟩
    obtain ⟨tr, ho, ha⟩ := id ht
    have hlen := pairs_len ho ha
    refine ⟨Nat.zero_le _, fun R nR => ?_⟩
    have sR : Same H (upd H R (.lst [])) := same_upd nR
    refine ⟨_, rfl, by show 1 ≤ sizeLine; decide, fun n1 nn1 => ?_⟩
    have s1 : Same (upd H R (.lst [])) (upd (upd H R (.lst [])) n1 (.lst [.non])) := same_upd nn1
    refine ⟨p, n1, _, [.non], rfl, tr.keep (sR.trans s1), hlen, upd_same, rfl, fun H2 d2 s2 nd2 hd2 => ?_⟩
    rw [row_zero ho.nd (asc_mem ha)] at hd2
    have sA : Same H H2 := sR.trans (s1.trans s2)
    have hR2 : H2 R = some (.lst []) := s2 _ _ (s1 _ _ upd_same)
    have nd2' : H d2 = none := (sR.trans s1).free nd2
    have d2R : d2 ≠ R := fun e => by rw [e, s1 _ _ upd_same] at nd2; cases nd2
    refine ⟨fun m σ H' => ∃ d b as, m = hgt ns.reverse ms - d ∧ d ≤ hgt ns.reverse ms ∧ σ = [some (.ref p), some (.ref R), some (.ref b)] ∧ Same H H' ∧ H b = none ∧ b ≠ R ∧ (∀ c ∈ as, H c = none ∧ c ≠ R) ∧ H' R = some (.lst (as.map V.ref)) ∧ ListsAt H' as (rowsL ns ms d) ∧ H' b = some (.lst ((rowAt ns.reverse ms d).map V.int)),
      ⟨hgt ns.reverse ms, 0, d2, [], rfl, Nat.zero_le _, rfl, sA, nd2', d2R, (fun c hc => nomatch hc), hR2, .nil, hd2⟩, ?_⟩
    rintro m σ H' ⟨d, b, as, rfl, hd, rfl, sm, nb, hbR, nas, hR, hA, hb⟩
    have h40 := hgt40 ht
    have hal : as.length = d := by
      have := Paired.length hA
      unfold rowsL at this
      rw [List.length_map, List.length_range] at this
      exact this
    refine ⟨_, rfl, _, .inl ⟨_, SqL.of hb, rfl⟩, ?_⟩
    by_cases hlt : d < hgt ns.reverse ms
    · have hne := row_some (rev_nodup ho.nd) (fun k => ((asc_mem ha k).trans List.mem_reverse.symm)) hlt
      have hT : (!((rowAt ns.reverse ms d).map V.int).isEmpty) = true := by
        cases hra : rowAt ns.reverse ms d with
        | nil => exact absurd hra hne
        | cons x r => rfl
      rw [hT]
      refine iteT ⟨fun σ' H2 => ∃ b as, σ' = [some (.ref p), some (.ref R), some (.ref b)] ∧ Same H H2 ∧ H b = none ∧ b ≠ R ∧ (∀ c ∈ as, H c = none ∧ c ≠ R) ∧ H2 R = some (.lst (as.map V.ref)) ∧ ListsAt H2 as (rowsL ns ms (d + 1)) ∧ H2 b = some (.lst ((rowAt ns.reverse ms (d + 1)).map V.int)), fun σ' H2 hN => ?_, ?_⟩
      · obtain ⟨b', as', c⟩ := hN
        exact ⟨hgt ns.reverse ms - (d + 1), by omega, d + 1, b', as', rfl, hlt, c⟩
      · refine ⟨_, rfl, .inl ⟨rfl, _, .inl (.inl hR)⟩, _, rfl, R, _, _, rfl, rfl, hR, ?_, ?_⟩
        · rw [List.length_map, hal]
          exact small1000 (by omega)
        · have sm2 : Same H (upd H' R (.lst (as.map V.ref ++ [.ref b]))) := same_put sm nR
          have hb2 : (upd H' R (.lst (as.map V.ref ++ [.ref b]))) b = some (.lst ((rowAt ns.reverse ms d).map V.int)) := by rw [upd_ne hbR]; exact hb
          refine ⟨_, rfl, _, rfl, p, b, _, _, rfl, tr.keep sm2, hlen, hb2, ?_, fun H3 d3 s3 nd3 hd3 => ?_⟩
          · rw [List.all_map, List.all_eq_true]
            intro x _
            rfl
          · rw [row_succ ho.nd (asc_mem ha)] at hd3
            have d3R : d3 ≠ R := fun e => by rw [e, upd_same] at nd3; cases nd3
            refine ⟨d3, as ++ [b], rfl, sm2.trans s3, sm2.free nd3, d3R, fun c hc => ?_, ?_, ?_, hd3⟩
            · rcases List.mem_append.mp hc with hc | hc
              · exact nas c hc
              · rw [List.mem_singleton] at hc
                subst hc
                exact ⟨nb, hbR⟩
            · rw [s3 _ _ upd_same, List.map_append]
              rfl
            · unfold rowsL
              rw [List.range_succ, List.map_append]
              have keepA : ∀ {xs : List Addr} {ls : List (List Int)}, ListsAt H' xs ls → (∀ c ∈ xs, c ≠ R) → ListsAt H3 xs ls := by
                intro xs ls hp
                induction hp with
                | nil => intro _; exact .nil
                | cons r t ih => intro hc; exact .cons (s3 _ _ (by rw [upd_ne (hc _ List.mem_cons_self)]; exact r)) (ih fun c h => hc c (List.mem_cons_of_mem _ h))
              refine paired_snoc (keepA hA fun c hc => (nas c hc).2) (s3 _ _ hb2)
    · obtain rfl : d = hgt ns.reverse ms := by omega
      have hra := row_none (r := ns.reverse) (ms := ms) (Nat.le_refl (hgt ns.reverse ms))
      rw [hra]
      refine iteF ?_
      exact ⟨_, rfl, q H' R as sm nR hR hA fun b hb => (nas b hb).1⟩
end
end T1
namespace T1
open PySem PySem.Spec PyProof.Rows L2 TK BstM DatI
section
variable {P : Program} {w : World} {K : PySem.W.Frag} {mg : Str → Option Value} {base : Heap}
abbrev sRbr : Stmt := topS 26
theorem scRbr : FnScope ["pairs", "row", "key"] ["pairs"] (defScope sRbr) := ⟨rfl, rfl, rfl, by decide +kernel, rfl, by decide +kernel, by decide +kernel⟩
theorem ok_rbr (h : Has K mg "row_by_row" sRbr) (hR : OkE P w K mg base 2 "rows_of" ["pairs"] spRows) (T : Names mg) : OkE P w K mg base 3 "row_by_row" ["pairs"] spRbr := by
  obtain ⟨fR, dR, OR⟩ := hR
  refine h.ok scRbr (fun _ _ _ _ _ _ us hl => match us, hl with | [_], _ => rfl) (fun vs H Q E h => ?_) (fun f cdv A outer s H vs Q E hr h => ?_)
  · obtain ⟨p, ns, ms, rfl, _⟩ := h
    rfl
  · obtain ⟨p, ns, ms, rfl, ht, q⟩ := h
    refine ⟨_, pss_one (ps_ret (pe_lc2 (own := [("row", 1), ("key", 2)]) (vs1 := [2]) (g := gName 1) (tt := tYes) (wi1 := iList K (tVar 1)) (g1 := gName 2) (tt1 := tYes) rfl scRbr.nd
        (pi_list (pe_callO OR hr (pa_cons (pv 0) pa_nil))) (blkOk_by (N := ["pairs", "row", "key"]) (sc := defScope sRbr) (by decide +kernel)) (by decide)
        (fun _ _ _ _ _ => pg_name (i := 1) scRbr.nd rfl (.inl rfl)) (fun _ _ _ _ _ => pts_nil) (fun _ _ _ _ _ => pi_list (pv 1)) (fun _ _ _ _ _ => pg_name (i := 2) scRbr.nd rfl (.inl rfl)) (fun _ _ _ _ _ => pts_nil) (fun _ _ _ _ _ => pv 2))), ?_⟩
    obtain ⟨tr, ho, ha⟩ := id ht
    -- rows_of
    refine ⟨_, rfl, p, ns, ms, rfl, ht, fun H2 R as s2 nR hR hA nas => ⟨R, rfl, ⟨_, SqL.of hR⟩, fun D nD => ?_⟩⟩
    have hhl := hgt40 ht
    have hm := asc_mem ha
    have hmn : ms.Nodup := ha.1.nodup_iff.mpr ho.nd
    have hrl : as.length = hgt ns.reverse ms := by
      have := Paired.length hA
      unfold rowsL at this
      rw [List.length_map, List.length_range] at this
      exact this
    -- what the rows up to i hold
    have upto : ∀ i, ((List.range i).flatMap (rowAt ns.reverse ms)).length ≤ 40 := fun i => by
      have hn : ((List.range i).flatMap (rowAt ns.reverse ms)).Nodup := by
        unfold List.Nodup
        rw [List.pairwise_flatMap]
        refine ⟨fun d _ => hmn.sublist List.filter_sublist, ?_⟩
        refine List.Pairwise.imp (R := (· ≠ ·)) (fun {a b} hab x hx y hy e => ?_) List.nodup_range
        subst e
        exact hab ((mem_rowAt.mp hx).2.symm.trans (mem_rowAt.mp hy).2)
      have hs : ∀ x ∈ (List.range i).flatMap (rowAt ns.reverse ms), x ∈ ms := fun x hx => by
        obtain ⟨d, _, h⟩ := List.mem_flatMap.mp hx
        exact (mem_rowAt.mp h).1
      have := len_sub _ _ hn hs
      have := ha.1.length_eq
      have := ho.len
      omega
    refine (show ∃ W : Nat → Nat → Hp → Prop, _ from ⟨fun i m H' => m = as.length - i ∧ i ≤ as.length ∧ Same H2 H' ∧ H' D = some (.lst (((List.range i).flatMap (rowAt ns.reverse ms)).map V.int)), ⟨as.length, rfl, Nat.zero_le _, same_upd nD, by rw [upd_same]; rfl⟩, ?_⟩)
    rintro i m H' ⟨rfl, hi, sm, hD⟩
    by_cases hlt : i < as.length
    · refine .inr ⟨⟨_, _, SqL.of (sm _ _ hR), by rw [List.getElem?_map, List.getElem?_eq_getElem hlt]; rfl⟩, fun H'' => Same H2 H'' ∧ H'' D = some (.lst (((List.range (i + 1)).flatMap (rowAt ns.reverse ms)).map V.int)), fun H'' h => ⟨as.length - (i + 1), by omega, rfl, hlt, h.1, h.2⟩, fun x H'' hy => ?_⟩
      obtain ⟨rfl, fx⟩ := hy
      have ex := fx _ (SqL.of (sm _ _ hR))
      rw [List.getElem?_map, List.getElem?_eq_getElem hlt] at ex
      obtain rfl := Option.some.inj ex
      obtain ⟨row, hrow, hb⟩ := paired_get hA (List.getElem?_eq_getElem hlt)
      have hrow2 : row = rowAt ns.reverse ms i := by
        unfold rowsL at hrow
        rw [List.getElem?_map, List.getElem?_range (by omega)] at hrow
        exact (Option.some.inj hrow).symm
      subst hrow2
      refine ⟨rfl, ?_⟩
      unfold tYes
      refine iteT ?_
      have hb' := sm _ _ hb
      have hfm : (List.range (i + 1)).flatMap (rowAt ns.reverse ms) = (List.range i).flatMap (rowAt ns.reverse ms) ++ rowAt ns.reverse ms i := by
        rw [List.range_succ, List.flatMap_append]
        simp
      have hu1 := upto (i + 1)
      rw [hfm, List.length_append] at hu1
      generalize hpre : (List.range i).flatMap (rowAt ns.reverse ms) = pre at hD hfm hu1
      generalize rowAt ns.reverse ms i = row at hb hb' hfm hu1
      refine ⟨_, rfl, as[i], rfl, ⟨_, SqL.of hb'⟩, ?_⟩
      refine ⟨fun j n H4 => n = row.length - j ∧ j ≤ row.length ∧ Same H2 H4 ∧ H4 D = some (.lst ((pre ++ row.take j).map V.int)), ⟨row.length, rfl, Nat.zero_le _, sm, by rw [List.take_zero, List.append_nil]; exact hD⟩, ?_⟩
      rintro j n H4 ⟨rfl, hj, sm4, hD4⟩
      have hb4 := sm4 _ _ hb
      by_cases hjl : j < row.length
      · refine .inr ⟨⟨_, _, SqL.of hb4, by rw [List.getElem?_map, List.getElem?_eq_getElem hjl]; rfl⟩, fun H5 => Same H2 H5 ∧ H5 D = some (.lst ((pre ++ row.take (j + 1)).map V.int)), fun H5 h => ⟨row.length - (j + 1), by omega, rfl, hjl, h.1, h.2⟩, fun x H5 hy => ?_⟩
        obtain ⟨rfl, fx⟩ := hy
        have ex := fx _ (SqL.of hb4)
        rw [List.getElem?_map, List.getElem?_eq_getElem hjl] at ex
        obtain rfl := Option.some.inj ex
        refine ⟨rfl, ?_⟩
        refine iteT ?_
        refine ⟨_, rfl, _, hD4, ?_, same_put sm4 nD, ?_⟩
        · rw [List.length_map, List.length_append, List.length_take]
          exact small1000 (by omega)
        · rw [upd_same, take_snocA hjl, ← List.append_assoc, List.map_append (l₁ := pre ++ row.take j)]
          rfl
      · obtain rfl : j = row.length := by omega
        refine .inl ⟨⟨_, SqL.of hb4, by rw [List.length_map]; exact Nat.le_refl _⟩, sm4, ?_⟩
        rw [hfm]
        rw [List.take_length] at hD4
        exact hD4
    · obtain rfl : i = as.length := by omega
      refine .inl ⟨⟨_, SqL.of (sm _ _ hR), by rw [List.length_map]; exact Nat.le_refl _⟩, ?_⟩
      rw [hrl] at hD
      have hD : H' D = some (.lst ((rowOrder ns.reverse ms).map V.int)) := hD
      exact q H' D (s2.trans sm) (s2.free nD) hD
end
end T1
namespace T1
open PySem PySem.Spec PyProof.Rows L2 TK BstM DatI
section
variable {P : Program} {w : World} {K : PySem.W.Frag} {mg : Str → Option Value} {base : Heap}
abbrev sIsTree : Stmt := topS 17
theorem scIsTree : FnScope ["candidate"] ["candidate"] (defScope sIsTree) := ⟨rfl, rfl, rfl, by decide +kernel, rfl, by decide +kernel, by decide +kernel⟩
theorem ok_isTree (h : Has K mg "is_tree" sIsTree) (hF : OkE P w K mg base 5 "has_tree_form" ["candidate"] spForm) (hA : OkE P w K mg base 3 "tree_after" ["order"] (spAfter K)) (hR : OkE P w K mg base 3 "row_by_row" ["pairs"] spRbr) (T : Names mg) : OkE P w K mg base 6 "is_tree" ["candidate"] spIsTree := by
  obtain ⟨fF, dF, OF⟩ := hF
  obtain ⟨fA, dA, OA⟩ := hA
  obtain ⟨fR, dR, OR⟩ := hR
  refine h.ok scIsTree (fun _ _ _ _ _ _ us hl => match us, hl with | [_], _ => rfl) (fun vs H Q E h => ?_) (fun f cdv A outer s H vs Q E hr h => ?_)
  · obtain ⟨p, ns, ms, rfl, _⟩ := h
    rfl
  · obtain ⟨p, ns, ms, rfl, ht, q⟩ := h
    have hu := hr.units
    refine ⟨_, pss_cons (ps_if (pt_not (pt_val (pe_callO OF hr (pa_cons (pv 0) pa_nil)))) (pss_one (ps_ret pe_bl)) pss_nil)
      (pss_one (ps_ret (pe_cmpR (op_eqD hu) (pv 0) (pe_callO OA hr (pa_cons (pe_callO OR hr (pa_cons (pv 0) pa_nil)) pa_nil)) (nomark _)))), ?_⟩
    obtain ⟨tr, ho, ha⟩ := id ht
    refine ⟨_, rfl, p, _, rfl, tr, pairs_ok ho ha, fun H1 s1 => ?_⟩
    rw [pairs_keys, ascN_of (asc_lt ho.nd ha)]
    refine ⟨_, rfl, iteF ?_⟩
    refine ⟨_, rfl, _, rfl, p, ns, ms, rfl, ht.keep s1, fun H4 D s4 nD hD => ?_⟩
    refine ⟨D, _, rfl, SqL.of hD, row_ord ho ha, fun H5 p5 ms5 s5 np5 hm5 t5 => ?_⟩
    refine ⟨_, _, dp_tree (tr.keep (s1.trans (s4.trans s5))), dp_tree t5, TreeD.shaped_tree _, TreeD.shaped_tree _, ?_⟩
    rw [eqv_trees, decide_eq_true (after_tree ho ha hm5)]
    exact q H5 (s1.trans (s4.trans s5))
end
end T1
namespace T1
open PySem PySem.Spec PyProof.Rows L2 TK BstM DatI
section
variable {P : Program} {w : World} {K : PySem.W.Frag} {mg : Str → Option Value} {base : Heap}
abbrev sCheckT : Stmt := topS 18
theorem scCheckT : FnScope ["candidate"] ["candidate"] (defScope sCheckT) := ⟨rfl, rfl, rfl, by decide +kernel, rfl, by decide +kernel, by decide +kernel⟩
theorem ok_checkT (h : Has K mg "check_tree" sCheckT) (hT : OkE P w K mg base 6 "is_tree" ["candidate"] spIsTree) (T : Names mg) : OkE P w K mg base 7 "check_tree" ["candidate"] spCheckT := by
  obtain ⟨fT, dT, OT⟩ := hT
  refine h.ok scCheckT (fun _ _ _ _ _ _ us hl => match us, hl with | [_], _ => rfl) (fun vs H Q E h => ?_) (fun f cdv A outer s H vs Q E hr h => ?_)
  · obtain ⟨p, ns, ms, rfl, _⟩ := h
    rfl
  · obtain ⟨p, ns, ms, rfl, ht, q⟩ := h
    refine ⟨_, pss_one (ps_if (pt_not (pt_val (pe_callO OT hr (pa_cons (pv 0) pa_nil)))) (pss_one ps_never) pss_nil), ?_⟩
    exact ⟨_, rfl, p, ns, ms, rfl, ht, fun H1 s1 => ⟨_, rfl, iteF (q H1 s1)⟩⟩
end
end T1
namespace T1
open PySem PySem.Spec PyProof.Rows L2 TK BstM DatI
section
variable {P : Program} {w : World} {K : PySem.W.Frag} {mg : Str → Option Value} {base : Heap}
abbrev sFactP : Stmt := topS 38
theorem scFactP : FnScope ["amount", "product", "factor"] ["amount"] (defScope sFactP) := ⟨rfl, rfl, rfl, by decide +kernel, rfl, by decide +kernel, by decide +kernel⟩
theorem ok_factP (h : Has K mg "factorial" sFactP) (T : Names mg) : OkE P w K mg base 1 "factorial" ["amount"] spFact := by
  refine h.ok scFactP (fun _ _ _ _ _ _ us hl => match us, hl with | [_], _ => rfl) (fun vs H Q E h => ?_) (fun f cdv A outer s H vs Q E hr h => ?_)
  · obtain ⟨n, rfl, _⟩ := h
    rfl
  · obtain ⟨n, rfl, hn, q⟩ := h
    refine ⟨_, pss_cons (ps_set (i := 1) scFactP.nd rfl (.inl rfl) pe_int)
      (pss_cons (ps_for PassesOwn.never rfl (pi_range2 rfl T.range (pa_cons pe_int (pa_cons (pe_op op_add (pv 0) pe_int) pa_nil))) (pg_name (i := 2) scFactP.nd rfl (.inl rfl))
        (pss_one (ps_aug (i := 1) scFactP.nd rfl (.inl rfl) (pv 2) iop_mul)))
      (pss_one (ps_ret (pv 1)))), ?_⟩
    refine ⟨_, rfl, _, _, rfl, rfl, _, _, rfl, ⟨by omega, by omega, by omega, by omega⟩, ?_⟩
    rw [show (((n : Nat) : Int) + 1 - 2).toNat = n - 1 by omega]
    refine for_range (lo := 2) (n := n - 1) (fun i σ H' => ∃ y2, σ = [some (.int ((n : Nat) : Int)), some (.int ((fact (i + 1) : Nat) : Int)), y2] ∧ H' = H) ⟨none, rfl, rfl⟩ (fun i σ H' hi h => ?_) (fun σ H' h => ?_)
    · obtain ⟨y2, rfl, rfl⟩ := h
      refine ⟨_, rfl, _, rfl, _, _, rfl, rfl, .inr ⟨by omega, by omega⟩, some (.int (2 + (i : Int))), ?_, rfl⟩
      have e : ((fact (i + 1) : Nat) : Int) * (2 + (i : Int)) = ((fact (i + 1 + 1) : Nat) : Int) := by
        show _ = (((i + 1 + 1) * fact (i + 1) : Nat) : Int)
        rw [Int.natCast_mul, Int.mul_comm, show (2 : Int) + (i : Int) = ((i + 1 + 1 : Nat) : Int) by omega]
      rw [← e]
      rfl
    · obtain ⟨y2, rfl, rfl⟩ := h
      have e : fact (n - 1 + 1) = fact n := by
        cases n with
        | zero => rfl
        | succ m => rfl
      rw [e]
      exact ⟨_, rfl, q⟩
end
end T1
namespace T1
open PySem PySem.Spec PyProof.Rows L2 TK BstM DatI
section
variable {P : Program} {w : World} {K : PySem.W.Frag} {mg : Str → Option Value} {base : Heap}
abbrev sCountW : Stmt := topS 33
theorem scCountW : FnScope ["sizes", "product", "size"] ["sizes"] (defScope sCountW) := ⟨rfl, rfl, rfl, by decide +kernel, rfl, by decide +kernel, by decide +kernel⟩
theorem ok_countW (h : Has K mg "count_with" sCountW) (hF : OkE P w K mg base 1 "factorial" ["amount"] spFact) (T : Names mg) : OkE P w K mg base 2 "count_with" ["sizes"] spCountW := by
  obtain ⟨fF, dF, OF⟩ := hF
  refine h.ok scCountW (fun _ _ _ _ _ _ us hl => match us, hl with | [_], _ => rfl) (fun vs H Q E h => ?_) (fun f cdv A outer s H vs Q E hr h => ?_)
  · obtain ⟨d, ns, ms, rfl, _⟩ := h
    rfl
  · obtain ⟨d, ns, ms, rfl, hd, hnn, hlen, hp, q⟩ := h
    refine ⟨_, pss_cons (ps_set (i := 1) scCountW.nd rfl (.inl rfl) pe_int)
      (pss_cons (ps_lock (ps_for PassesOwn.never rfl (pi_values (pv 0)) (pg_name (i := 2) scCountW.nd rfl (.inl rfl))
        (pss_one (ps_aug (i := 1) scCountW.nd rfl (.inl rfl) (pv 2) iop_mul))))
      (pss_one (ps_ret (pe_op op_fdivW (pe_callO OF hr (pa_cons (pe_callB call_lenD (by rfl) T.len PySem.boot_len (pa_cons (pv 0) pa_nil)) pa_nil)) (pv 1))))), ?_⟩
    refine ⟨d, _, hd, trivial, fun od => ?_⟩
    have hf : (upd H d (.frz od (.dK (dS (sz ns) ms)))) d = some (.frz od (.dK (dS (sz ns) ms))) := upd_same
    have sL := lock_same (H := H) (od := od) hd (Same.refl _)
    generalize upd H d (.frz od (.dK (dS (sz ns) ms))) = H3 at hf sL ⊢
    refine ⟨_, rfl, d, od, _, rfl, hf, ?_⟩
    refine for_it (walk_values (kvs := dS (sz ns) ms)) (fun i σ G => ∃ y2, σ = [some (.ref d), some (.int ((prodN (ms.take i) (sz ns) : Nat) : Int)), y2] ∧ G = H3) ⟨none, rfl, rfl⟩ (fun i σ G _ h => ?_) (fun i x σ G G' hi h y => ?_) (fun σ G h => ?_)
    · obtain ⟨_, _, rfl⟩ := h
      exact hf
    · obtain ⟨y2, rfl, rfl⟩ := h
      obtain ⟨rfl, kk, hkv⟩ := y
      rw [dS_len] at hi
      have hx : x = .int ((sz ns ms[i] : Nat) : Int) := by
        unfold dS at hkv
        rw [List.getElem?_map, List.getElem?_eq_getElem hi] at hkv
        exact (congrArg Prod.snd (Option.some.inj hkv)).symm
      subst hx
      have hts := take_snocA hi
      generalize ms[i] = o at hts
      have h2 := sz_le ns o
      refine ⟨_, rfl, _, rfl, _, _, rfl, rfl, .inr ⟨by omega, by omega⟩, some (.int ((sz ns o : Nat) : Int)), ?_, rfl⟩
      rw [hts, prodN_snoc, Int.natCast_mul]
      rfl
    · obtain ⟨y2, rfl, rfl⟩ := h
      rw [dS_len, List.take_length]
      refine ⟨hf, ?_⟩
      have hd4 : (upd G d (.dK (dS (sz ns) ms))) d = some (.dK (dS (sz ns) ms)) := upd_same
      refine ⟨_, rfl, d, _, rfl, hd4, ns.length, by rw [dS_len, hp.length_eq]; rfl, by omega, ?_⟩
      have hpos : 0 < prodN ms (sz ns) := prodN_pos fun k hk => sz_pos hnn (hp.mem_iff.mp hk)
      refine ⟨_, rfl, _, _, rfl, rfl, wide_div (by omega) (by rw [Int.natAbs_natCast]; exact prodN_bits hlen hp) (by decide) (by decide), ?_⟩
      have e : ((fact ns.length : Nat) : Int) / ((prodN ms (sz ns) : Nat) : Int) = ((cntO ns : Nat) : Int) := by
        unfold cntO
        rw [prodN_perm hp]
        rfl
      have q2 := q _ sL
      rw [← e] at q2
      exact q2
end
end T1
namespace T1
open PySem PySem.Spec PyProof.Rows L2 TK BstM DatI
section
variable {P : Program} {w : World} {K : PySem.W.Frag} {mg : Str → Option Value} {base : Heap}
abbrev sParIn : Stmt := topS 23
theorem scParIn : FnScope ["tree", "key", "parent"] ["tree"] (defScope sParIn) := ⟨rfl, rfl, rfl, by decide +kernel, rfl, by decide +kernel, by decide +kernel⟩
theorem ok_parIn (h : Has K mg "parents_in" sParIn) (T : Names mg) : OkE P w K mg base 1 "parents_in" ["tree"] spParIn := by
  refine h.ok scParIn (fun _ _ _ _ _ _ us hl => match us, hl with | [_], _ => rfl) (fun vs H Q E h => ?_) (fun f cdv A outer s H vs Q E hr h => ?_)
  · obtain ⟨p, l, rfl, _⟩ := h
    rfl
  · obtain ⟨p, l, rfl, ht, hnd, hlen, k⟩ := h
    refine ⟨_, pss_one (ps_ret (pe_dc (own := [("key", 1), ("parent", 2)]) (g := gTup K 2 (gCons (gName 1) (gCons (gName 2) gNil))) rfl scParIn.nd (pi_tup (pv 0)) (blkOk_by (N := ["tree", "key", "parent"]) (sc := defScope sParIn) (by decide +kernel))
      (fun _ _ _ _ _ => pg_tup rfl (pgs_cons (pg_name (i := 1) scParIn.nd rfl (.inl rfl)) (pgs_cons (pg_name (i := 2) scParIn.nd rfl (.inl rfl)) pgs_nil)))
      (fun _ _ _ _ _ => pts_nil) (fun _ _ _ _ _ => pv 1) (fun _ _ _ _ _ => pv 2))), ?_⟩
    obtain ⟨as, hp, hP⟩ := ht
    have hal : as.length = l.length := Paired.length hP
    refine ⟨_, rfl, p, rfl, ⟨_, SqT.of hp⟩, fun D nD => ?_⟩
    refine dc_tup (xs := as.map V.ref) (fun i H' => Same H H' ∧ i ≤ l.length ∧ H' D = some (.dK (dictOf (l.take i)))) ⟨same_upd nD, Nat.zero_le _, by rw [upd_same]; rfl⟩ (fun i H' _ h => SqT.of (h.1 _ _ hp)) (fun i x H' hx h => ?_) (fun H' h => ?_)
    · obtain ⟨sm, _, hD⟩ := h
      rw [List.getElem?_map] at hx
      obtain ⟨b, hb, rfl⟩ := Option.map_eq_some_iff.mp hx
      obtain ⟨y, hy, hb2⟩ := paired_get hP hb
      obtain ⟨hi, ey⟩ := List.getElem?_eq_some_iff.mp hy
      have hts := take_snocA hi
      rw [ey] at hts
      refine ⟨b, _, rfl, SqT.of (sm _ _ hb2), rfl, _, _, rfl, _, _, rfl, rfl, rfl, ?_⟩
      unfold tYes
      refine iteT ?_
      have hnew : y.1 ∉ (l.take i).map (·.1) := fun z => by
        have hnd' := hnd
        rw [← List.take_append_drop (i + 1) l, hts, List.append_assoc, List.map_append] at hnd'
        exact (List.nodup_append.mp hnd').2.2 _ z _ (by simp) rfl
      refine ⟨_, rfl, _, rfl, _, Sum.inl y.1, rfl, hD, ?_, same_put sm nD, hi, ?_⟩
      · unfold dictOf
        rw [List.length_map]
        have := List.length_take_le i l
        exact small1000 (by omega)
      · rw [upd_same, putK_new _ (dictOf_new hnew), hts]
        unfold dictOf
        rw [List.map_append]
        rfl
    · obtain ⟨sm, _, hD⟩ := h
      rw [List.length_map, hal, List.take_length] at hD
      exact k H' D sm nD hD
end
end T1
namespace T1
open PySem PySem.Spec PyProof.Rows L2 TK BstM DatI
section
variable {P : Program} {w : World} {K : PySem.W.Frag} {mg : Str → Option Value} {base : Heap}
abbrev sPathIn : Stmt := topS 24
theorem scPathIn : FnScope ["parents", "key", "met", "at"] ["parents", "key"] (defScope sPathIn) := ⟨rfl, rfl, rfl, by decide +kernel, rfl, by decide +kernel, by decide +kernel⟩
theorem ok_pathIn (h : Has K mg "path_in" sPathIn) (T : Names mg) : OkE P w K mg base 1 "path_in" ["parents", "key"] spPathIn := by
  refine h.ok scPathIn (fun _ _ _ _ _ _ us hl => match us, hl with | [_, _], _ => rfl) (fun vs H Q E h => ?_) (fun f cdv A outer s H vs Q E hr h => ?_)
  · obtain ⟨d, kvs, r, k, rfl, _⟩ := h
    rfl
  · obtain ⟨d, kvs, r, k, rfl, hd, hr', hlen, hdf, hk, q⟩ := h
    have hu := hu_of hr
    refine ⟨_, pss_cons (ps_set (i := 2) scPathIn.nd rfl (.inl rfl) (pe_lst pa_nil))
      (pss_cons (ps_set (i := 3) scPathIn.nd rfl (.inl rfl) (pv 1))
      (pss_cons (ps_while PassesOwn.never (pt_cmpR op_notN (pv 3) pe_non (nomark _))
        (pss_cons (ps_expr (pe_bm PySem.F.plainAttrs_list PySem.F.slot_list_append PySem.F.type_list_append mt_append (pv 2) (pa_cons (pv 3) pa_nil)))
        (pss_one (ps_set (i := 3) scPathIn.nd rfl (.inl rfl) (pe_dget hu (pv 0) (pv 3) (fun _ _ => rfl))))))
      (pss_one (ps_ret (pe_revL (pv 2)))))), ?_⟩
    refine ⟨Nat.zero_le _, fun M nM => ?_⟩
    refine ⟨_, rfl, ?_⟩
    have hpl := pathUp_len_le r hr' k hk
    refine ⟨fun m σ H' => ∃ (met : List Int) (at' : Option Int), m = (restUp r at').length ∧ σ = [some (.ref d), some (.int k), some (.ref M), some (oV at')] ∧ Same H H' ∧ H' M = some (.lst (met.map V.int)) ∧ met ++ restUp r at' = pathUp r k ∧ (∀ x, at' = some x → x ∈ r),
      ⟨_, [], some k, rfl, rfl, same_upd nM, by rw [upd_same]; rfl, rfl, fun x e => by rw [← Option.some.inj e]; exact hk⟩, ?_⟩
    rintro m σ H' ⟨met, at', rfl, rfl, sm, hM, hp, hin⟩
    have hml : met.length ≤ 40 := by
      have := congrArg List.length hp
      rw [List.length_append] at this
      omega
    refine ⟨_, rfl, rfl, _, rfl, ?_⟩
    cases at' with
    | some x =>
      have hx := hin x rfl
      have he := pathUp_eq r hr' x hx
      refine iteT ⟨fun σ' H2 => ∃ (met' : List Int) (at2 : Option Int), (restUp r at2).length < (restUp r (some x)).length ∧ σ' = [some (.ref d), some (.int k), some (.ref M), some (oV at2)] ∧ Same H H2 ∧ H2 M = some (.lst (met'.map V.int)) ∧ met' ++ restUp r at2 = pathUp r k ∧ (∀ y, at2 = some y → y ∈ r), fun σ' H2 hN => ?_, ?_⟩
      · obtain ⟨met', at2, c1, c⟩ := hN
        exact ⟨_, c1, met', at2, rfl, c⟩
      · refine ⟨_, rfl, .inl ⟨rfl, _, .inl (.inl hM)⟩, _, rfl, M, _, _, rfl, rfl, hM, ?_, ?_⟩
        · rw [List.length_map]
          exact small1000 (by omega)
        · have sm2 : Same H (upd H' M (.lst (met.map V.int ++ [.int x]))) := same_put sm nM
          refine ⟨_, rfl, _, rfl, d, oV (BstM.placeOf r x).1, rfl, ?_, met ++ [x], (BstM.placeOf r x).1, ?_, rfl, sm2, ?_, ?_, ?_⟩
          · have := dget_rd (k := x) (Rd.keep hd sm2)
            rw [hdf x hx] at this
            exact this
          · show _ < (pathUp r x).length
            rw [he]
            exact Nat.lt_succ_self _
          · rw [upd_same, List.map_append]
            rfl
          · rw [← hp, List.append_assoc]
            show met ++ ([x] ++ _) = met ++ pathUp r x
            rw [he]
            rfl
          · intro y e
            exact placeOf_mem e
    | none =>
      refine iteF ?_
      have hp' : met = pathUp r k := by
        rw [← hp]
        exact (List.append_nil _).symm
      refine ⟨_, rfl, M, _, rfl, SqL.of hM, fun b nb => ?_⟩
      refine q _ b (sm.trans (same_upd nb)) (sm.free nb) ?_
      rw [upd_same, ← hp', List.map_reverse]
end
end T1
namespace T1
open PySem PySem.Spec PyProof.Rows L2 TK BstM DatI
section
variable {P : Program} {w : World} {K : PySem.W.Frag} {mg : Str → Option Value} {base : Heap}
abbrev sSizes : Stmt := topS 32
abbrev nSizes : List Str := ["tree", "parents", "sizes", "key", "upper"]
theorem scSizes : FnScope nSizes ["tree"] (defScope sSizes) := ⟨rfl, rfl, rfl, by decide +kernel, rfl, by decide +kernel, by decide +kernel⟩
theorem ok_sizes (h : Has K mg "sizes_in" sSizes) (hI : OkE P w K mg base 1 "parents_in" ["tree"] spParIn) (hQ : OkE P w K mg base 1 "path_in" ["parents", "key"] spPathIn) (T : Names mg) : OkE P w K mg base 2 "sizes_in" ["tree"] spSizes := by
  obtain ⟨fI, dI, OI⟩ := hI
  obtain ⟨fQ, dQ, OQ⟩ := hQ
  refine h.ok scSizes (fun _ _ _ _ _ _ us hl => match us, hl with | [_], _ => rfl) (fun vs H Q E h => ?_) (fun f cdv A outer s H vs Q E hr h => ?_)
  · obtain ⟨p, ns, ms, rfl, _⟩ := h
    rfl
  · obtain ⟨p, ns, ms, rfl, ht, q⟩ := h
    have hu := hu_of hr
    refine ⟨_, pss_cons (ps_set (i := 1) scSizes.nd rfl (.inl rfl) (pe_callO OI hr (pa_cons (pv 0) pa_nil)))
      (pss_cons (ps_lock (ps_setDc (i := 2) (own := [("key", 3)]) (g := gName 3) (tt := tYes) rfl scSizes.nd rfl rfl (sw_trueD rfl rfl rfl (by decide +kernel)) (pi_keys (pv 1)) (blkOk_by (N := nSizes) (sc := defScope sSizes) (by decide +kernel))
        (fun _ _ _ _ _ => pg_name (i := 3) scSizes.nd rfl (.inl rfl)) (fun _ _ _ _ _ => pts_nil) (fun _ _ _ _ _ => pv 3) (fun _ _ _ _ _ => pe_int)))
      (pss_cons (ps_lock (ps_for PassesOwn.never rfl (pi_keys (pv 1)) (pg_name (i := 3) scSizes.nd rfl (.inl rfl))
        (pss_one (ps_for PassesOwn.never rfl (pi_list (pe_callO OQ hr (pa_cons (pv 1) (pa_cons (pv 3) pa_nil)))) (pg_name (i := 4) scSizes.nd rfl (.inl rfl))
          (pss_one (ps_daug hu (pv 2) (pv 4) pe_int in_add (fun _ _ _ => rfl)))))))
      (pss_one (ps_ret (pv 2))))), ?_⟩
    refine ⟨_, rfl, p, _, rfl, ht.1, tree_nd ht, pairs_len ht.2.1 ht.2.2, fun H2 d s2 nd hd => ?_⟩
    have hml : ms.length ≤ 40 := by rw [ht.2.2.1.length_eq]; exact ht.2.1.len
    have hmn : ms.Nodup := ht.2.2.1.nodup_iff.mpr ht.2.1.nd
    have hdl : (dictOf (pairsOf ns ms)).length = ms.length := by unfold dictOf pairsOf; rw [List.length_map, List.length_map]
    have hkey : ∀ {i : Nat} {kk : Key} {v : V} (hi : i < ms.length), (dictOf (pairsOf ns ms))[i]? = some (kk, v) → kk = Sum.inl ms[i] := fun {i kk v} hi hkv => by
      unfold dictOf pairsOf at hkv
      rw [List.map_map, List.getElem?_map, List.getElem?_eq_getElem hi] at hkv
      exact (congrArg Prod.fst (Option.some.inj hkv)).symm
    have hDF : DictFor (dictOf (pairsOf ns ms)) ns.reverse := dictFor_pairs ht.2.1.nd ht.2.2
    have hrn := rev_nodup ht.2.1.nd
    generalize dictOf (pairsOf ns ms) = kvs at hd hdl hkey hDF
    -- all zero
    refine ⟨d, _, hd, trivial, fun od => ?_⟩
    have hf : (upd H2 d (.frz od (.dK kvs))) d = some (.frz od (.dK kvs)) := upd_same
    have sf : Same H (upd H2 d (.frz od (.dK kvs))) := same_put s2 nd
    generalize hH3 : upd H2 d (.frz od (.dK kvs)) = H3 at hf sf ⊢
    refine ⟨_, rfl, d, od, rfl, .inl ⟨_, hf, fun D nD => ?_⟩⟩
    have nDd : D ≠ d := fun e => by rw [e, hf] at nD; cases nD
    refine dc_it (walk_keys (kvs := kvs)) (fun i H' => Same H3 H' ∧ i ≤ ms.length ∧ H' D = some (.dK (dS (fun _ => 0) (ms.take i)))) ⟨same_upd nD, Nat.zero_le _, by rw [upd_same]; rfl⟩ (fun i H' _ h => h.1 _ _ hf) (fun i x H' H'' hi h y => ?_) (fun H' h => ?_)
    · obtain ⟨sm, _, hD⟩ := h
      obtain ⟨rfl, kk, v, hkv, rfl⟩ := y
      rw [hdl] at hi
      obtain rfl := hkey hi hkv
      have hts := take_snocA hi
      have hnew : ms[i] ∉ ms.take i := fun z => by
        have hnd' := hmn
        rw [← List.take_append_drop (i + 1) ms, hts, List.append_assoc] at hnd'
        exact (List.nodup_append.mp hnd').2.2 _ z _ (List.mem_append_left _ (List.mem_singleton.mpr rfl)) rfl
      refine ⟨rfl, ?_⟩
      unfold tYes
      refine iteT ?_
      refine ⟨_, rfl, _, Sum.inl ms[i], rfl, hD, ?_, same_put sm nD, hi, ?_⟩
      · rw [dS_len]
        have := List.length_take_le i ms
        exact small1000 (by omega)
      · rw [upd_same, putK_new _ (dS_new hnew), hts]
        unfold dS
        rw [List.map_append]
        rfl
    obtain ⟨sm, _, hD⟩ := h
    rw [hdl, List.take_length] at hD
    have hdF := sm _ _ hf
    refine ⟨hdF, ?_⟩
    have nD0 : H D = none := sf.free nD
    have s4 : Same H (upd H' d (.dK kvs)) := same_put (sf.trans sm) nd
    have hd4 : (upd H' d (.dK kvs)) d = some (.dK kvs) := upd_same
    have hD4 : (upd H' d (.dK kvs)) D = some (.dK (dS (fun _ => 0) ms)) := by rw [upd_ne nDd]; exact hD
    generalize upd H' d (.dK kvs) = H4 at s4 hd4 hD4 ⊢
    refine ⟨d, _, hd4, trivial, fun od2 => ?_⟩
    have s5 : Same H (upd H4 d (.frz od2 (.dK kvs))) := same_put s4 nd
    have hd5 : (upd H4 d (.frz od2 (.dK kvs))) d = some (.frz od2 (.dK kvs)) := upd_same
    have hD5 : (upd H4 d (.frz od2 (.dK kvs))) D = some (.dK (dS (cntL ns.reverse (ms.take 0)) ms)) := by rw [upd_ne nDd]; exact hD4
    generalize upd H4 d (.frz od2 (.dK kvs)) = H5 at s5 hd5 hD5 ⊢
    refine ⟨_, rfl, d, od2, rfl, .inl ⟨_, hd5, ?_⟩⟩
    refine for_it (walk_keys (kvs := kvs)) (fun i σ G => ∃ y3 y4, σ = [some (.ref p), some (.ref d), some (.ref D), y3, y4] ∧ Same H G ∧ G d = some (.frz od2 (.dK kvs)) ∧ G D = some (.dK (dS (cntL ns.reverse (ms.take i)) ms))) ⟨none, none, rfl, s5, hd5, hD5⟩ (fun i σ G _ h => ?_) (fun i x σ G G' hi h y => ?_) (fun σ G h => ?_)
    · obtain ⟨_, _, _, _, h, _⟩ := h
      exact h
    · obtain ⟨y3, y4, rfl, sg, hdg, hDg⟩ := h
      obtain ⟨rfl, kk, v, hkv, rfl⟩ := y
      rw [hdl] at hi
      obtain rfl := hkey hi hkv
      have hmi : ms[i] ∈ ns.reverse := List.mem_reverse.mpr ((asc_mem ht.2.2 _).mp (List.getElem_mem hi))
      have hts := take_snocA hi
      generalize ms[i] = o at hmi hts
      refine ⟨_, rfl, _, rfl, d, kvs, ns.reverse, o, rfl, .inr ⟨od2, hdg⟩, hrn, by rw [List.length_reverse]; exact ht.2.1.len, hDF, hmi, fun G2 b sb nb hb => ⟨b, rfl, ⟨_, SqL.of hb⟩, ?_⟩⟩
      have hpn : (pathUp ns.reverse o).reverse.Nodup := rev_nodup ((pathUp_sub _ hrn o).nodup hrn)
      have hpm : ∀ u ∈ (pathUp ns.reverse o).reverse, u ∈ ms := fun u hu => (asc_mem ht.2.2 u).mpr (List.mem_reverse.mp (pathUp_mem _ _ _ (List.mem_reverse.mp hu)))
      have hpe : ∀ k, k ∈ (pathUp ns.reverse o).reverse ↔ k ∈ pathUp ns.reverse o := fun k => List.mem_reverse
      generalize hpath : (pathUp ns.reverse o).reverse = path at hb hpn hpm hpe ⊢
      have hbD : b ≠ D := (ne_of_none hDg nb).symm
      refine for_list (K := K) (a := b) (xs := path.map V.int) (fun j σ G3 => ∃ y4, σ = [some (.ref p), some (.ref d), some (.ref D), some (.int o), y4] ∧ Same H G3 ∧ G3 d = some (.frz od2 (.dK kvs)) ∧ G3 b = some (.lst (path.map V.int)) ∧ G3 D = some (.dK (dS (fun k => cntL ns.reverse (ms.take i) k + if k ∈ path.take j then 1 else 0) ms))) ⟨y4, rfl, sg.trans sb, sb _ _ hdg, hb, by rw [sb _ _ hDg]; rfl⟩ (fun j σ G3 _ h => ?_) (fun j x σ G3 hx h => ?_) (fun σ G3 h => ?_)
      · obtain ⟨_, _, _, _, h, _⟩ := h
        exact SqL.of h
      · obtain ⟨y4, rfl, s3, hd3, hb3, hD3⟩ := h
        have hj : j < path.length := by
          have := (List.getElem?_eq_some_iff.mp hx).1
          rw [List.length_map] at this
          exact this
        obtain rfl : x = .int path[j] := by
          rw [List.getElem?_map, List.getElem?_eq_getElem hj] at hx
          exact (Option.some.inj hx).symm
        have hu2 := hpm _ (List.getElem_mem hj)
        have htj := take_snocA hj
        have hnew : path[j] ∉ path.take j := fun z => by
          have hnd' := hpn
          rw [← List.take_append_drop (j + 1) path, htj, List.append_assoc] at hnd'
          exact (List.nodup_append.mp hnd').2.2 _ z _ (List.mem_append_left _ (List.mem_singleton.mpr rfl)) rfl
        generalize path[j] = u at hu2 htj hnew
        have hg := DGet.k (k := Sum.inl u) hD3
        rw [dS_val hu2] at hg
        refine ⟨_, rfl, _, rfl, D, _, rfl, hg, _, _, rfl, rfl, _, DPut.k (k := Sum.inl u) hD3 (by rw [dS_len]; exact small1000 (by omega)), _, rfl, same_put s3 nD0, by rw [upd_ne nDd.symm]; exact hd3, by rw [upd_ne hbD]; exact hb3, ?_⟩
        rw [upd_same, dS_put hu2]
        congr 2
        refine dS_congr fun k _ => ?_
        rw [htj]
        by_cases e : k = u
        · subst e
          simp [hnew]
        · simp [e]
      · obtain ⟨y4, rfl, s3, hd3, hb3, hD3⟩ := h
        refine ⟨_, _, rfl, s3, hd3, ?_⟩
        rw [hD3, hts, List.length_map, List.take_length]
        congr 2
        refine dS_congr fun k _ => ?_
        rw [cntL_snoc]
        simp only [hpe]
    · obtain ⟨y3, y4, rfl, sg, hdg, hDg⟩ := h
      rw [hdl, List.take_length] at hDg
      refine ⟨hdg, _, rfl, q _ D (same_put sg nd) nD0 ?_⟩
      rw [upd_ne nDd, hDg]
      congr 2
      exact dS_congr fun k _ => cntL_perm ht.2.2.1 k
end
end T1
namespace T1
open PySem PySem.Spec PyProof.Rows L2 TK BstM DatI
section
variable {P : Program} {w : World} {K : PySem.W.Frag} {mg : Str → Option Value} {base : Heap}
abbrev sCountO : Stmt := topS 29
theorem scCountO : FnScope ["tree"] ["tree"] (defScope sCountO) := ⟨rfl, rfl, rfl, by decide +kernel, rfl, by decide +kernel, by decide +kernel⟩
theorem ok_countO (h : Has K mg "count_orders" sCountO) (hC : OkE P w K mg base 7 "check_tree" ["candidate"] spCheckT) (hW : OkE P w K mg base 2 "count_with" ["sizes"] spCountW) (hS : OkE P w K mg base 2 "sizes_in" ["tree"] spSizes) (T : Names mg) : OkE P w K mg base 8 "count_orders" ["tree"] spCountO := by
  obtain ⟨fC, dC, OC⟩ := hC
  obtain ⟨fW, dW, OW⟩ := hW
  obtain ⟨fS, dS', OS⟩ := hS
  refine h.ok scCountO (fun _ _ _ _ _ _ us hl => match us, hl with | [_], _ => rfl) (fun vs H Q E h => ?_) (fun f cdv A outer s H vs Q E hr h => ?_)
  · obtain ⟨p, ns, ms, rfl, _⟩ := h
    rfl
  · obtain ⟨p, ns, ms, rfl, ht, q⟩ := h
    refine ⟨_, pss_cons (ps_expr (pe_callO OC hr (pa_cons (pv 0) pa_nil))) (pss_one (ps_ret (pe_callO OW hr (pa_cons (pe_callO OS hr (pa_cons (pv 0) pa_nil)) pa_nil)))), ?_⟩
    refine ⟨_, rfl, p, ns, ms, rfl, ht, fun H1 s1 => ?_⟩
    refine ⟨_, rfl, p, ns, ms, rfl, ht.keep s1, fun H2 d s2 nd hd => ?_⟩
    exact ⟨d, ns, ms, rfl, hd, ht.2.1.nd, ht.2.1.len, ht.2.2.1, fun H3 s3 => q H3 (s1.trans (s2.trans s3))⟩
end
end T1
namespace T1
open PySem PySem.Spec PyProof.Rows L2 TK BstM DatI
section
variable {P : Program} {w : World} {K : PySem.W.Frag} {mg : Str → Option Value} {base : Heap}
abbrev sFact : Stmt := topS 44
theorem scFact : FnScope ["_law_many", "_law_found", "_law_factor"] ["_law_many"] (defScope sFact) := ⟨rfl, rfl, rfl, by decide +kernel, rfl, by decide +kernel, by decide +kernel⟩
theorem ok_fact (h : Has K mg "_law_factorial" sFact) (T : Names mg) : OkE P w K mg base 1 "_law_factorial" ["_law_many"] spFact := by
  refine h.ok scFact (fun _ _ _ _ _ _ us hl => match us, hl with | [_], _ => rfl) (fun vs H Q E h => ?_) (fun f cdv A outer s H vs Q E hr h => ?_)
  · obtain ⟨n, rfl, _⟩ := h
    rfl
  · obtain ⟨n, rfl, hn, q⟩ := h
    refine ⟨_, pss_cons (ps_set (i := 1) scFact.nd rfl (.inl rfl) pe_int)
      (pss_cons (ps_for PassesOwn.never rfl (pi_range2 rfl T.range (pa_cons pe_int (pa_cons (pe_op op_add (pv 0) pe_int) pa_nil))) (pg_name (i := 2) scFact.nd rfl (.inl rfl))
        (pss_one (ps_set (i := 1) scFact.nd rfl (.inl rfl) (pe_op op_mul (pv 1) (pv 2)))))
      (pss_one (ps_ret (pv 1)))), ?_⟩
    refine ⟨_, rfl, _, _, rfl, rfl, _, _, rfl, ⟨by omega, by omega, by omega, by omega⟩, ?_⟩
    rw [show (((n : Nat) : Int) + 1 - 1).toNat = n by omega]
    refine for_range (lo := 1) (n := n) (fun i σ H' => ∃ y2, σ = [some (.int ((n : Nat) : Int)), some (.int ((fact i : Nat) : Int)), y2] ∧ H' = H) ⟨none, rfl, rfl⟩ (fun i σ H' hi h => ?_) (fun σ H' h => ?_)
    · obtain ⟨y2, rfl, rfl⟩ := h
      refine ⟨_, rfl, _, rfl, _, _, rfl, rfl, .inr ⟨by omega, by omega⟩, some (.int (1 + (i : Int))), ?_, rfl⟩
      have e : ((fact i : Nat) : Int) * (1 + (i : Int)) = ((fact (i + 1) : Nat) : Int) := by
        show _ = (((i + 1) * fact i : Nat) : Int)
        rw [Int.natCast_mul, Int.mul_comm, Int.add_comm]
        rfl
      rw [← e]
      rfl
    · obtain ⟨y2, rfl, rfl⟩ := h
      exact ⟨_, rfl, q⟩
end
end T1
-- reg: ('share','sShare','ok_Share',[],'D_share')
namespace T1
open PySem PySem.Spec PyProof.Rows L2 TK BstM DatI
section
variable {P : Program} {w : World} {K : PySem.W.Frag} {mg : Str → Option Value} {base : Heap}
abbrev sShare : Stmt := topS 35
abbrev nShare : List Str := ["count", "sizes", "free", "chosen", "key"]
theorem scShare : FnScope nShare ["count", "sizes", "free", "chosen"] (defScope sShare) := ⟨rfl, rfl, rfl, by decide +kernel, rfl, by decide +kernel, by decide +kernel⟩
theorem ok_Share (h : Has K mg "share" sShare)  (T : Names mg) : OkE P w K mg base 1 "share" ["count", "sizes", "free", "chosen"] spShare := by
  refine h.ok scShare (fun _ _ _ _ _ _ us hl => match us, hl with | [_, _, _, _], _ => rfl) (fun vs H Q E h => ?_) (fun f cdv A outer s H vs Q E hr h => ?_)
  · obtain ⟨d, a, b, c, g, ms, fr, ch, rfl, _⟩ := h
    rfl
  · obtain ⟨d, a, b, c, g, ms, fr, ch, rfl, hd, ha, hb, hfr, hch, hg, hfl, hcl, hc, hpos, q⟩ := h
    have hu := hu_of hr
    refine ⟨_, pss_one (ps_ret (pe_op op_fdiv (pe_op op_mulW (pv 0) (pe_callB (cr_sum rfl) (by rfl) T.sum (by decide +kernel) (pa_cons (pe_lc (own := [("key", 4)]) (g := gName 4) (tt := tYes) rfl scShare.nd (pi_list (pv 3)) (blkOk_by (N := nShare) (sc := defScope sShare) (by decide +kernel)) (fun _ _ _ _ _ => (pg_name (i := 4) scShare.nd rfl (.inl rfl))) (fun _ _ _ _ _ => pts_nil) (fun _ _ _ _ _ => (pe_dget hu (pv 1) (pv 4) (fun _ _ => rfl)))) pa_nil))) (pe_callB (cr_sum rfl) (by rfl) T.sum (by decide +kernel) (pa_cons (pe_lc (own := [("key", 4)]) (g := gName 4) (tt := tYes) rfl scShare.nd (pi_list (pv 2)) (blkOk_by (N := nShare) (sc := defScope sShare) (by decide +kernel)) (fun _ _ _ _ _ => (pg_name (i := 4) scShare.nd rfl (.inl rfl))) (fun _ _ _ _ _ => pts_nil) (fun _ _ _ _ _ => (pe_dget hu (pv 1) (pv 4) (fun _ _ => rfl)))) pa_nil)))), ?_⟩
    have get : ∀ {G : Hp} {u : Int}, Same H G → u ∈ ms → DGet G d (.int u) (some (.int ((g u : Nat) : Int))) := fun {G u} s' hu' => by
      have := dget_rd (k := u) (.inl (s' _ _ hd) : Rd G d (.dK (dS g ms)))
      rw [dS_val hu'] at this
      exact this
    refine ⟨_, rfl, _, rfl, b, rfl, ⟨_, SqL.of hb⟩, fun D nD => ?_⟩
    refine lc_fm (i := 4) (fun _ => true) (fun k => .int ((g k : Nat) : Int)) (SqL.of hb) nD (by omega) (fun _ => rfl) (fun o G _ _ R hR => hR _ (Same.refl _)) (fun o G ho _ s' R hR => ⟨_, rfl, _, rfl, d, _, rfl, get s' (hch o ho), hR _ (Same.refl _)⟩) (fun G s1 hD => ?_)
    rw [filter_all] at hD
    have hD' : G D = some (.lst ((ch.map fun k => ((g k : Nat) : Int)).map V.int)) := by rw [hD, List.map_map]; rfl
    refine ⟨D, _, rfl, SqL.of hD', ?_⟩
    rw [sum_dS]
    have hs1 := sumN_bound (g := g) (l := ch) fun k hk => hg k (hch k hk)
    have hs2 := sumN_bound (g := g) (l := fr) fun k hk => hg k (hfr k hk)
    refine ⟨_, _, rfl, rfl, wide_mul (a := 300) (b := 64) (by rw [Int.natAbs_natCast]; exact hc) (by rw [Int.natAbs_natCast]; omega) (by decide) (by decide) (by decide), ?_⟩
    refine ⟨_, rfl, a, rfl, ⟨_, SqL.of (s1 _ _ ha)⟩, fun D2 nD2 => ?_⟩
    refine lc_fm (i := 4) (fun _ => true) (fun k => .int ((g k : Nat) : Int)) (SqL.of (s1 _ _ ha)) nD2 (by omega) (fun _ => rfl) (fun o G _ _ R hR => hR _ (Same.refl _)) (fun o G ho _ s' R hR => ⟨_, rfl, _, rfl, d, _, rfl, get (s1.trans s') (hfr o ho), hR _ (Same.refl _)⟩) (fun G2 s2 hD2 => ?_)
    rw [filter_all] at hD2
    have hD2' : G2 D2 = some (.lst ((fr.map fun k => ((g k : Nat) : Int)).map V.int)) := by rw [hD2, List.map_map]; rfl
    refine ⟨D2, _, rfl, SqL.of hD2', ?_⟩
    rw [sum_dS]
    refine ⟨_, _, rfl, rfl, ⟨by omega, by omega⟩, ?_⟩
    have q2 := q G2 (s1.trans s2)
    have e : ((c * sumN ch g / sumN fr g : Nat) : Int) = ((c : Nat) : Int) * ((sumN ch g : Nat) : Int) / ((sumN fr g : Nat) : Int) := by
      rw [← Int.natCast_mul]
      rfl
    rw [e] at q2
    exact q2
end
end T1
-- reg: ('free_after','sFreeAfter','ok_FreeAfter',['keys_under'],'D_free_after')
namespace T1
open PySem PySem.Spec PyProof.Rows L2 TK BstM DatI
section
variable {P : Program} {w : World} {K : PySem.W.Frag} {mg : Str → Option Value} {base : Heap}
abbrev sFreeAfter : Stmt := topS 37
abbrev nFreeAfter : List Str := ["tree", "free", "key", "other"]
theorem scFreeAfter : FnScope nFreeAfter ["tree", "free", "key"] (defScope sFreeAfter) := ⟨rfl, rfl, rfl, by decide +kernel, rfl, by decide +kernel, by decide +kernel⟩
theorem ok_FreeAfter (h : Has K mg "free_after" sFreeAfter) (h_keys_under : OkE P w K mg base 1 "keys_under" ["pairs", "parents"] spUnder) (T : Names mg) : OkE P w K mg base 2 "free_after" ["tree", "free", "key"] spFreeA := by
  obtain ⟨f_keys_under, d_keys_under, O_keys_under⟩ := h_keys_under
  refine h.ok scFreeAfter (fun _ _ _ _ _ _ us hl => match us, hl with | [_, _, _], _ => rfl) (fun vs H Q E h => ?_) (fun f cdv A outer s H vs Q E hr h => ?_)
  · obtain ⟨p, a, ns, ms, l, k, rfl, _⟩ := h
    rfl
  · obtain ⟨p, a, ns, ms, l, k, rfl, ht, ha, hl, q⟩ := h
    refine ⟨_, pss_one (ps_ret (pe_op op_cat (pe_lc (own := [("other", 3)]) (g := gName 3) rfl scFreeAfter.nd (pi_list (pv 1)) (blkOk_by (N := nFreeAfter) (sc := defScope sFreeAfter) (by decide +kernel)) (fun _ _ _ _ _ => (pg_name (i := 3) scFreeAfter.nd rfl (.inl rfl))) (fun _ _ _ _ _ => pts_one (pt_cmpR op_ne (pv 3) (pv 2) (nomark _))) (fun _ _ _ _ _ => (pv 3))) (pe_callO O_keys_under hr (pa_cons (pv 0) (pa_cons (pe_lst (pa_cons (pv 2) pa_nil)) pa_nil))))), ?_⟩
    refine ⟨_, rfl, a, rfl, ⟨_, SqL.of ha⟩, fun D nD => ?_⟩
    refine lc_fm (i := 3) (fun j => decide (j ≠ k)) V.int (SqL.of ha) nD (by omega) (fun _ => rfl) (fun o G _ _ R hR => ⟨_, rfl, _, rfl, rfl, _, rfl, ?_⟩) (fun o G _ _ _ R hR => ⟨_, rfl, hR _ (Same.refl _)⟩) (fun G s1 hD => ?_)
    · have e : (!decide (V.int o = V.int k)) = decide (o ≠ k) := by
        by_cases c : o = k
        · simp [c]
        · simp [c]
      rw [e]
      exact hR _ (Same.refl _)
    refine ⟨_, rfl, _, rfl, by show 1 ≤ sizeLine; decide, fun L nL => ?_⟩
    have s2 : Same G (upd G L (.lst [.int k])) := same_upd nL
    have hL : (upd G L (.lst [.int k])) L = some (.lst [.int k]) := upd_same
    generalize upd G L (.lst [.int k]) = G2 at s2 hL
    refine ⟨p, L, _, [.int k], rfl, ht.1.keep (s1.trans s2), pairs_len ht.2.1 ht.2.2, hL, rfl, fun G3 d s3 nd hd => ?_⟩
    rw [under_one] at hd
    refine ⟨D, d, _, _, rfl, rfl, s3 _ _ (s2 _ _ hD), hd, ?_, fun r nr => ?_⟩
    · rw [List.length_map, List.length_map]
      have h1 := List.length_filter_le (fun j => decide (j ≠ k)) l
      have h2 := List.length_filter_le (fun j => decide (parentIn ns.reverse j = some k)) ms
      have h3 := ht.2.2.1.length_eq
      have h4 := ht.2.1.len
      exact Nat.le_of_lt (small1000 (by omega))
    have sA := s1.trans (s2.trans s3)
    exact q _ r (sA.trans (same_upd nr)) (sA.free nr) (by rw [upd_same, List.map_append])
end
end T1
-- reg: ('smaller','sSmaller','ok_Smaller',[],'D_smaller')
namespace T1
open PySem PySem.Spec PyProof.Rows L2 TK BstM DatI
section
variable {P : Program} {w : World} {K : PySem.W.Frag} {mg : Str → Option Value} {base : Heap}
abbrev sSmaller : Stmt := topS 36
abbrev nSmaller : List Str := ["keys", "key", "other"]
theorem scSmaller : FnScope nSmaller ["keys", "key"] (defScope sSmaller) := ⟨rfl, rfl, rfl, by decide +kernel, rfl, by decide +kernel, by decide +kernel⟩
theorem ok_Smaller (h : Has K mg "smaller" sSmaller)  (T : Names mg) : OkE P w K mg base 1 "smaller" ["keys", "key"] (spSmaller K) := by
  refine h.ok scSmaller (fun _ _ _ _ _ _ us hl => match us, hl with | [_, _], _ => rfl) (fun vs H Q E h => ?_) (fun f cdv A outer s H vs Q E hr h => ?_)
  · obtain ⟨a, l, k, rfl, _⟩ := h
    rfl
  · obtain ⟨a, l, k, rfl, hS, hl, q⟩ := h
    refine ⟨_, pss_one (ps_ret (pe_lc (own := [("other", 2)]) (g := gName 2) rfl scSmaller.nd (pi_list (pv 0)) (blkOk_by (N := nSmaller) (sc := defScope sSmaller) (by decide +kernel)) (fun _ _ _ _ _ => (pg_name (i := 2) scSmaller.nd rfl (.inl rfl))) (fun _ _ _ _ _ => pts_one (pt_cmpR op_lt (pv 2) (pv 1) (nomark _))) (fun _ _ _ _ _ => (pv 2)))), ?_⟩
    refine ⟨_, rfl, a, rfl, ⟨_, hS⟩, fun D nD => ?_⟩
    exact lc_fm (i := 2) (fun j => decide (j < k)) V.int hS nD hl (fun _ => rfl) (fun o G _ _ R hR => ⟨_, rfl, _, rfl, _, _, rfl, rfl, _, rfl, hR _ (Same.refl _)⟩) (fun o G _ _ _ R hR => ⟨_, rfl, hR _ (Same.refl _)⟩) (fun G s' hD => q G D s' nD hD)
end
end T1
-- reg: ('order_with','sOrderWith','ok_OrderWith',['count_with', 'keys_under', 'share', 'free_after', 'smaller'],'D_order_with')
namespace T1
open PySem PySem.Spec PyProof.Rows L2 TK BstM DatI
section
variable {P : Program} {w : World} {K : PySem.W.Frag} {mg : Str → Option Value} {base : Heap}
abbrev sOrderWith : Stmt := topS 34
abbrev nOrderWith : List Str := ["tree", "sizes", "number", "count", "rest", "order", "free", "key", "one"]
theorem scOrderWith : FnScope nOrderWith ["tree", "sizes", "number"] (defScope sOrderWith) := ⟨rfl, rfl, rfl, by decide +kernel, rfl, by decide +kernel, by decide +kernel⟩
theorem ok_OrderWith (h : Has K mg "order_with" sOrderWith) (h_count_with : OkE P w K mg base 2 "count_with" ["sizes"] spCountW) (h_keys_under : OkE P w K mg base 1 "keys_under" ["pairs", "parents"] spUnder) (h_share : OkE P w K mg base 1 "share" ["count", "sizes", "free", "chosen"] spShare) (h_free_after : OkE P w K mg base 2 "free_after" ["tree", "free", "key"] spFreeA) (h_smaller : OkE P w K mg base 1 "smaller" ["keys", "key"] (spSmaller K)) (T : Names mg) : OkE P w K mg base 3 "order_with" ["tree", "sizes", "number"] spOrdW := by
  obtain ⟨f_count_with, d_count_with, O_count_with⟩ := h_count_with
  obtain ⟨f_keys_under, d_keys_under, O_keys_under⟩ := h_keys_under
  obtain ⟨f_share, d_share, O_share⟩ := h_share
  obtain ⟨f_free_after, d_free_after, O_free_after⟩ := h_free_after
  obtain ⟨f_smaller, d_smaller, O_smaller⟩ := h_smaller
  refine h.ok scOrderWith (fun _ _ _ _ _ _ us hl => match us, hl with | [_, _, _], _ => rfl) (fun vs H Q E h => ?_) (fun f cdv A outer s H vs Q E hr h => ?_)
  · obtain ⟨p, d, ns, ms, r, rfl, _⟩ := h
    rfl
  · obtain ⟨p, d, ns, ms, r, rfl, ht, hd, hr0, q⟩ := h
    refine ⟨_, pss_cons (ps_set (i := 3) scOrderWith.nd rfl (.inr rfl) (pe_callO O_count_with hr (pa_cons (pv 1) pa_nil)))
      (pss_cons (ps_set (i := 4) scOrderWith.nd rfl (.inr rfl) (pv 2))
      (pss_cons (ps_set (i := 5) scOrderWith.nd rfl (.inl rfl) (pe_lst pa_nil))
      (pss_cons (ps_set (i := 6) scOrderWith.nd rfl (.inr rfl) (pe_callO O_keys_under hr (pa_cons (pv 0) (pa_cons (pe_lst (pa_cons pe_non pa_nil)) pa_nil))))
      (pss_cons (ps_while PassesOwn.never (pt_truth (pv 6) (by intro _; rfl))
      (pss_cons (ps_set (i := 7) scOrderWith.nd rfl (.inl rfl) (pe_callB (cr_max rfl) (by rfl) T.max (by decide +kernel) (pa_cons (pe_lc (own := [("one", 8)]) (g := gName 8) rfl scOrderWith.nd (pi_list (pv 6)) (blkOk_by (N := nOrderWith) (sc := defScope sOrderWith) (by decide +kernel)) (fun _ _ _ _ _ => (pg_name (i := 8) scOrderWith.nd rfl (.inl rfl))) (fun _ _ _ _ _ => pts_one (pt_cmpR op_le (pe_callO O_share hr (pa_cons (pv 3) (pa_cons (pv 1) (pa_cons (pv 6) (pa_cons (pe_callO O_smaller hr (pa_cons (pv 6) (pa_cons (pv 8) pa_nil))) pa_nil))))) (pv 4) (nomark _))) (fun _ _ _ _ _ => (pv 8))) pa_nil)))
        (pss_cons (ps_expr (pe_bm PySem.F.plainAttrs_list PySem.F.slot_list_append PySem.F.type_list_append mt_append (pv 5) (pa_cons (pv 7) pa_nil)))
        (pss_cons (ps_aug (i := 4) scOrderWith.nd rfl (.inr rfl) (pe_callO O_share hr (pa_cons (pv 3) (pa_cons (pv 1) (pa_cons (pv 6) (pa_cons (pe_callO O_smaller hr (pa_cons (pv 6) (pa_cons (pv 7) pa_nil))) pa_nil))))) ip_sub)
        (pss_cons (ps_set (i := 3) scOrderWith.nd rfl (.inr rfl) (pe_callO O_share hr (pa_cons (pv 3) (pa_cons (pv 1) (pa_cons (pv 6) (pa_cons (pe_lst (pa_cons (pv 7) pa_nil)) pa_nil))))))
        (pss_one (ps_set (i := 6) scOrderWith.nd rfl (.inr rfl) (pe_callO O_free_after hr (pa_cons (pv 0) (pa_cons (pv 6) (pa_cons (pv 7) pa_nil)))))))))))
      (pss_one (ps_ret (pv 5))))))), ?_⟩
    obtain ⟨tr, ho, hm⟩ := id ht
    have hsz : ∀ k ∈ ms, sz ns k ≤ 40 := fun k _ => Nat.le_trans (sz_le ns k) ho.len
    have hin : ∀ {f l : List Int}, l.Perm (free ns f) → ∀ k ∈ l, k ∈ ms := fun hl k hk => (asc_mem hm k).mpr (free_in hl k hk)
    refine ⟨_, rfl, d, ns, ms, rfl, hd, ho.nd, ho.len, hm.1, fun H1 s1 => ?_⟩
    refine ⟨_, rfl, ?_⟩
    refine ⟨Nat.zero_le _, fun O nO => ?_⟩
    have s2 : Same H1 (upd H1 O (.lst [])) := same_upd nO
    have hO2 : (upd H1 O (.lst [])) O = some (.lst []) := upd_same
    generalize upd H1 O (.lst []) = H2 at s2 hO2
    have nO0 : H O = none := s1.free nO
    refine ⟨_, rfl, by show 1 ≤ sizeLine; decide, fun L nL => ?_⟩
    have s3 : Same H2 (upd H2 L (.lst [.non])) := same_upd nL
    have hL : (upd H2 L (.lst [.non])) L = some (.lst [.non]) := upd_same
    generalize upd H2 L (.lst [.non]) = H3 at s3 hL
    have s13 := s1.trans (s2.trans s3)
    refine ⟨p, L, _, [.non], rfl, tr.keep s13, pairs_len ho hm, hL, rfl, fun H4 fr s4 nfr hfr => ?_⟩
    have s14 := s13.trans s4
    have er : rem ns [] = ns := by
      unfold rem
      exact List.filter_eq_self.mpr fun k _ => by simp
    refine ⟨fun m σ G => ∃ (c rest : Nat) (fl : Addr) (dn l : List Int) (y7 y8 : Option V), m = (rem ns dn.reverse).length ∧ σ = [some (.ref p), some (.ref d), some (.int ((r : Nat) : Int)), some (.int ((c : Nat) : Int)), some (.int ((rest : Nat) : Int)), some (.ref O), some (.ref fl), y7, y8] ∧ Same H G ∧ G O = some (.lst (dn.map V.int)) ∧ fl ≠ O ∧ G fl = some (.lst (l.map V.int)) ∧ l.Perm (free ns dn.reverse) ∧ Closed ns dn.reverse ∧ c = ext ns m dn.reverse ∧ rest < c ∧ dn.length ≤ 40 ∧
        ∀ s, Go ns s dn.reverse → Go ns (dn ++ s) [] ∧ rank ns (dn ++ s) [] + rest = r + rank ns s dn.reverse,
      ⟨_, cntO ns, r, fr, [], _, _, _, rfl, rfl, s14, s4 _ _ (s3 _ _ hO2), (fun z => by rw [z, s3 _ _ hO2] at nfr; cases nfr), hfr, free_start ho.nd hm, Closed.nil, by rw [show rem ns ([] : List Int).reverse = ns from er]; exact cntO_ext ho.nd, hr0, Nat.zero_le _, fun s hs => ⟨hs, Nat.add_comm _ _⟩⟩, ?_⟩
    rintro m σ G ⟨c, rest, fl, dn, l, y7, y8, rfl, rfl, sm, hO, hflO, hfl, hl, hcl, hc, hrest, hdl, hall⟩
    have hll := free_len ho.len hl
    have hsum := sizes_free hcl ho.nd
    by_cases hle : l = []
    · subst hle
      refine ⟨_, rfl, false, .inl ⟨_, SqL.of hfl, rfl⟩, iteF ?_⟩
      have hf0 : free ns dn.reverse = [] := List.Perm.eq_nil hl.symm
      rw [hf0] at hsum
      have hr0' : (rem ns dn.reverse).length = 0 := hsum.symm
      have hre : rem ns dn.reverse = [] := List.length_eq_zero_iff.mp hr0'
      obtain ⟨g1, g2⟩ := hall [] hre
      rw [hr0'] at hc
      have hc1 : c = 1 := hc
      rw [List.append_nil] at g1 g2
      have g3 : rank ns dn [] + rest = r + 0 := g2
      exact ⟨_, rfl, q G O dn sm nO0 hO g1 (by omega)⟩
    refine ⟨_, rfl, true, .inl ⟨_, SqL.of hfl, by cases l with | nil => exact absurd rfl hle | cons x l => rfl⟩, iteT ?_⟩
    obtain ⟨x0, hx0, hx0m⟩ := has_min hle
    obtain ⟨m', hm'⟩ : ∃ m', (rem ns dn.reverse).length = m' + 1 := by
      have h1 : x0 ∈ rem ns dn.reverse := (List.mem_filter.mp (hl.mem_iff.mp hx0)).1
      have := List.length_pos_of_mem h1
      exact ⟨(rem ns dn.reverse).length - 1, by omega⟩
    rw [hm'] at hc
    have hcb : c < 2 ^ 300 := by rw [hc, ← hm']; exact ext_bits ho.nd ho.len hcl
    have hps := sum_pos ho.nd hcl hm' hl
    generalize ef : dn.reverse = f at hl hcl hc hm' hall hsum
    have hshare : ∀ k, c * sumN (l.filter fun j => decide (j < k)) (sz ns) / sumN l (sz ns) = low (free ns f) (fun j => ext ns m' (j :: f)) k := fun k => by rw [hc]; exact step_low ho.nd hcl hm' hl k
    refine ⟨fun σ' G' => ∃ (c' rest' : Nat) (fl' : Addr) (dn' l' : List Int) (y7 y8 : Option V), (rem ns dn'.reverse).length < (rem ns f).length ∧ σ' = [some (.ref p), some (.ref d), some (.int ((r : Nat) : Int)), some (.int ((c' : Nat) : Int)), some (.int ((rest' : Nat) : Int)), some (.ref O), some (.ref fl'), y7, y8] ∧ Same H G' ∧ G' O = some (.lst (dn'.map V.int)) ∧ fl' ≠ O ∧ G' fl' = some (.lst (l'.map V.int)) ∧ l'.Perm (free ns dn'.reverse) ∧ Closed ns dn'.reverse ∧ c' = ext ns (rem ns dn'.reverse).length dn'.reverse ∧ rest' < c' ∧ dn'.length ≤ 40 ∧
        ∀ s, Go ns s dn'.reverse → Go ns (dn' ++ s) [] ∧ rank ns (dn' ++ s) [] + rest' = r + rank ns s dn'.reverse, fun σ' G' hN => ?_, ?_⟩
    · obtain ⟨c', rest', fl', dn', l', z7, z8, b1, b2, b3⟩ := hN
      exact ⟨_, b1, c', rest', fl', dn', l', z7, z8, rfl, b2, b3⟩
    refine ⟨_, rfl, fl, rfl, ⟨_, SqL.of hfl⟩, fun D nD => ?_⟩
    refine lc_fm (i := 8) (fun k => decide (low (free ns f) (fun j => ext ns m' (j :: f)) k ≤ rest)) V.int (SqL.of hfl) nD (by omega) (fun _ => rfl) (fun k G1 hk z1 R hR => ?_) (fun k G1 _ _ _ R hR => ⟨_, rfl, hR _ (Same.refl _)⟩) (fun G1 z1 hD => ?_)
    · refine ⟨_, rfl, _, rfl, _, rfl, _, rfl, _, rfl, fl, l, k, rfl, SqL.of (z1 _ _ hfl), by omega, fun G2 b z2 nb hb => ?_⟩
      refine ⟨d, fl, b, c, sz ns, ms, l, _, rfl, (sm.trans (z1.trans z2)) _ _ hd, (z1.trans z2) _ _ hfl, hb, hin hl, fun j hj => hin hl j (List.mem_filter.mp hj).1, hsz, hll, Nat.le_trans (List.length_filter_le _ _) hll, hcb, hps, fun G3 z3 => ?_⟩
      rw [hshare k]
      refine ⟨_, rfl, _, _, rfl, rfl, _, rfl, ?_⟩
      have e : decide (((low (free ns f) (fun j => ext ns m' (j :: f)) k : Nat) : Int) ≤ ((rest : Nat) : Int)) = decide (low (free ns f) (fun j => ext ns m' (j :: f)) k ≤ rest) := decide_eq_decide.mpr (by omega)
      rw [e]
      exact hR _ (z2.trans z3)
    refine ⟨D, _, rfl, SqL.of hD, ?_, fun k hk hmax => ?_⟩
    · refine List.length_pos_of_mem (a := x0) (List.mem_filter.mpr ⟨hx0, decide_eq_true ?_⟩)
      have := low_first (l := l) hx0m (fun j => ext ns m' (j :: f))
      rw [low_perm hl] at this
      omega
    obtain ⟨hkl, hkr⟩ := List.mem_filter.mp hk
    have hklow := of_decide_eq_true hkr
    have hkf : k ∈ free ns f := hl.mem_iff.mp hkl
    have hpick := low_pick (free_nodup (f := f) ho.nd) (g := fun j => ext ns m' (j :: f)) (r := rest) (by rw [hc] at hrest; exact hrest) hkf hklow (fun j hj hjl => hmax j (List.mem_filter.mpr ⟨hl.mem_iff.mpr hj, decide_eq_true hjl⟩))
    have hO1 := z1 _ _ hO
    refine ⟨_, rfl, .inl ⟨rfl, _, SqL.of hO1⟩, _, rfl, O, _, _, rfl, rfl, hO1, ?_, ?_⟩
    · rw [List.length_map]
      exact small1000 (by omega)
    have z2 : Same H (upd G1 O (.lst (dn.map V.int ++ [.int k]))) := same_put (sm.trans z1) nO0
    have hO3 : (upd G1 O (.lst (dn.map V.int ++ [.int k]))) O = some (.lst ((dn ++ [k]).map V.int)) := by rw [upd_same, List.map_append]; rfl
    have hfl3 : (upd G1 O (.lst (dn.map V.int ++ [.int k]))) fl = some (.lst (l.map V.int)) := by rw [upd_ne hflO]; exact z1 _ _ hfl
    generalize upd G1 O (.lst (dn.map V.int ++ [.int k])) = G3 at z2 hO3 hfl3
    -- what is left of the number
    refine ⟨_, rfl, _, rfl, _, rfl, _, rfl, _, rfl, _, rfl, fl, l, k, rfl, SqL.of hfl3, by omega, fun G4 b z4 nb hb => ?_⟩
    refine ⟨d, fl, b, c, sz ns, ms, l, _, rfl, (z2.trans z4) _ _ hd, z4 _ _ hfl3, hb, hin hl, fun j hj => hin hl j (List.mem_filter.mp hj).1, hsz, hll, Nat.le_trans (List.length_filter_le _ _) hll, hcb, hps, fun G5 z5 => ?_⟩
    rw [hshare k]
    refine ⟨_, _, rfl, rfl, ?_⟩
    have z35 := z4.trans z5
    refine ⟨_, rfl, _, rfl, _, rfl, _, rfl, by show 1 ≤ sizeLine; decide, fun L2' nL2 => ?_⟩
    have z6 : Same G5 (upd G5 L2' (.lst [.int k])) := same_upd nL2
    have hL2 : (upd G5 L2' (.lst [.int k])) L2' = some (.lst ([k].map V.int)) := upd_same
    generalize upd G5 L2' (.lst [.int k]) = G6 at z6 hL2
    have z36 := z35.trans z6
    refine ⟨d, fl, L2', c, sz ns, ms, l, [k], rfl, (z2.trans z36) _ _ hd, z36 _ _ hfl3, hL2, hin hl, fun j hj => by rw [List.mem_singleton.mp hj]; exact (asc_mem hm k).mpr (mem_free.mp hkf).1, hsz, hll, by show 1 ≤ 40; decide, hcb, hps, fun G7 z7 => ?_⟩
    have hone : c * sumN [k] (sz ns) / sumN l (sz ns) = ext ns m' (k :: f) := by rw [hc]; exact step_one ho.nd hcl hm' hl hkf
    rw [hone]
    have z37 := z36.trans z7
    refine ⟨_, rfl, _, rfl, _, rfl, p, fl, ns, ms, l, k, rfl, ht.keep (z2.trans z37), z37 _ _ hfl3, hll, fun G8 fl' z8 nfl' hfl' => ?_⟩
    have hO8 := (z37.trans z8) _ _ hO3
    have erev : (dn ++ [k]).reverse = k :: f := by rw [List.reverse_append, ef]; rfl
    have hrl : (rem ns (k :: f)).length = m' := by
      have := (rem_cons ho.nd (List.mem_filter.mp hkf).1).length_eq
      rw [List.length_cons] at this
      omega
    refine ⟨ext ns m' (k :: f), rest - low (free ns f) (fun j => ext ns m' (j :: f)) k, fl', dn ++ [k], _, some (.int k), y8, ?_, ?_, z2.trans (z37.trans z8), hO8, (fun z => by rw [z, z37 _ _ hO3] at nfl'; cases nfl'), hfl', ?_, ?_, ?_, by omega, ?_, fun s hs => ?_⟩
    · rw [erev]
      omega
    · rw [Int.natCast_sub hklow]
      exact rfl
    · rw [erev]
      exact free_step ho.nd hm hcl hl hkf
    · rw [erev]
      exact hcl.cons hkf
    · rw [erev, hrl]
    · have h1 := ho.len
      have h2 : (dn ++ [k]).reverse.Nodup := by rw [erev]; exact (hcl.cons hkf).nd
      have h3 := len_sub (dn ++ [k]).reverse ns h2 (by rw [erev]; exact (hcl.cons hkf).sub)
      rw [List.length_reverse] at h3
      omega
    · rw [erev] at hs ⊢
      obtain ⟨g1, g2⟩ := hall (k :: s) ⟨hkf, hs⟩
      have hsl : s.length = m' := by rw [← go_len ho.nd hs]; exact hrl
      have g3 : rank ns (dn ++ k :: s) [] + rest = r + (low (free ns f) (fun j => ext ns s.length (j :: f)) k + rank ns s (k :: f)) := g2
      rw [hsl] at g3
      rw [List.append_assoc]
      refine ⟨g1, ?_⟩
      show rank ns (dn ++ k :: s) [] + _ = _
      omega
end
end T1
-- reg: ('order_at','sOrderAt','ok_OrderAt',['check_tree', 'sizes_in', 'order_with', 'is_within', 'count_with'],'D_order_at')
namespace T1
open PySem PySem.Spec PyProof.Rows L2 TK BstM DatI
section
variable {P : Program} {w : World} {K : PySem.W.Frag} {mg : Str → Option Value} {base : Heap}
abbrev sOrderAt : Stmt := topS 30
abbrev nOrderAt : List Str := ["tree", "number", "sizes"]
theorem scOrderAt : FnScope nOrderAt ["tree", "number"] (defScope sOrderAt) := ⟨rfl, rfl, rfl, by decide +kernel, rfl, by decide +kernel, by decide +kernel⟩
theorem ok_OrderAt (h : Has K mg "order_at" sOrderAt) (h_check_tree : OkE P w K mg base 7 "check_tree" ["candidate"] spCheckT) (h_sizes_in : OkE P w K mg base 2 "sizes_in" ["tree"] spSizes) (h_order_with : OkE P w K mg base 3 "order_with" ["tree", "sizes", "number"] spOrdW) (h_is_within : OkE P w K mg base 2 "is_within" ["candidate", "low", "high"] (spWithin K)) (h_count_with : OkE P w K mg base 2 "count_with" ["sizes"] spCountW) (T : Names mg) : OkE P w K mg base 8 "order_at" ["tree", "number"] spOrdAt := by
  obtain ⟨f_check_tree, d_check_tree, O_check_tree⟩ := h_check_tree
  obtain ⟨f_sizes_in, d_sizes_in, O_sizes_in⟩ := h_sizes_in
  obtain ⟨f_order_with, d_order_with, O_order_with⟩ := h_order_with
  obtain ⟨f_is_within, d_is_within, O_is_within⟩ := h_is_within
  obtain ⟨f_count_with, d_count_with, O_count_with⟩ := h_count_with
  refine h.ok scOrderAt (fun _ _ _ _ _ _ us hl => match us, hl with | [_, _], _ => rfl) (fun vs H Q E h => ?_) (fun f cdv A outer s H vs Q E hr h => ?_)
  · obtain ⟨p, ns, ms, r, rfl, _⟩ := h
    rfl
  · obtain ⟨p, ns, ms, r, rfl, ht, hr0, q⟩ := h
    refine ⟨_, pss_cons (ps_expr (pe_callO O_check_tree hr (pa_cons (pv 0) pa_nil)))
      (pss_cons (ps_set (i := 2) scOrderAt.nd rfl (.inl rfl) (pe_callO O_sizes_in hr (pa_cons (pv 0) pa_nil)))
      (pss_cons (ps_if (pt_not (pt_val (pe_callO O_is_within hr (pa_cons (pv 1) (pa_cons pe_int (pa_cons (pe_op op_sub (pe_callO O_count_with hr (pa_cons (pv 2) pa_nil)) pe_int) pa_nil)))))) (pss_one ps_never) pss_nil)
      (pss_one (ps_ret (pe_callO O_order_with hr (pa_cons (pv 0) (pa_cons (pv 2) (pa_cons (pv 1) pa_nil)))))))), ?_⟩
    refine ⟨_, rfl, p, ns, ms, rfl, ht, fun H1 s1 => ?_⟩
    refine ⟨_, rfl, p, ns, ms, rfl, ht.keep s1, fun H2 d s2 nd hd => ?_⟩
    refine ⟨_, rfl, _, rfl, d, ns, ms, rfl, hd, ht.2.1.nd, ht.2.1.len, ht.2.2.1, fun H3 s3 => ?_⟩
    refine ⟨_, _, rfl, rfl, _, _, _, _, rfl, .int _, ?_⟩
    rw [decide_eq_true (by omega)]
    refine ⟨_, rfl, iteF ?_⟩
    have s13 := s1.trans (s2.trans s3)
    exact ⟨_, rfl, _, rfl, _, rfl, p, d, ns, ms, r, rfl, ht.keep s13, s3 _ _ hd, hr0, fun H4 b s s4 nb hb hg hk => q H4 b s (s13.trans s4) (s13.free nb) hb hg hk⟩
end
end T1
-- reg: ('number_of','sNumberOf','ok_NumberOf',['build', 'sizes_in', 'count_with', 'keys_under', 'share', 'free_after', 'smaller'],'D_number_of')
namespace T1
open PySem PySem.Spec PyProof.Rows L2 TK BstM DatI
section
variable {P : Program} {w : World} {K : PySem.W.Frag} {mg : Str → Option Value} {base : Heap}
abbrev sNumberOf : Stmt := topS 31
abbrev nNumberOf : List Str := ["order", "tree", "sizes", "count", "number", "free", "key"]
theorem scNumberOf : FnScope nNumberOf ["order"] (defScope sNumberOf) := ⟨rfl, rfl, rfl, by decide +kernel, rfl, by decide +kernel, by decide +kernel⟩
theorem ok_NumberOf (h : Has K mg "number_of" sNumberOf) (h_build : OkE P w K mg base 5 "build" ["order"] (spBuild K)) (h_sizes_in : OkE P w K mg base 2 "sizes_in" ["tree"] spSizes) (h_count_with : OkE P w K mg base 2 "count_with" ["sizes"] spCountW) (h_keys_under : OkE P w K mg base 1 "keys_under" ["pairs", "parents"] spUnder) (h_share : OkE P w K mg base 1 "share" ["count", "sizes", "free", "chosen"] spShare) (h_free_after : OkE P w K mg base 2 "free_after" ["tree", "free", "key"] spFreeA) (h_smaller : OkE P w K mg base 1 "smaller" ["keys", "key"] (spSmaller K)) (T : Names mg) : OkE P w K mg base 6 "number_of" ["order"] spNumOf := by
  obtain ⟨f_build, d_build, O_build⟩ := h_build
  obtain ⟨f_sizes_in, d_sizes_in, O_sizes_in⟩ := h_sizes_in
  obtain ⟨f_count_with, d_count_with, O_count_with⟩ := h_count_with
  obtain ⟨f_keys_under, d_keys_under, O_keys_under⟩ := h_keys_under
  obtain ⟨f_share, d_share, O_share⟩ := h_share
  obtain ⟨f_free_after, d_free_after, O_free_after⟩ := h_free_after
  obtain ⟨f_smaller, d_smaller, O_smaller⟩ := h_smaller
  refine h.ok scNumberOf (fun _ _ _ _ _ _ us hl => match us, hl with | [_], _ => rfl) (fun vs H Q E h => ?_) (fun f cdv A outer s H vs Q E hr h => ?_)
  · obtain ⟨a, os, rfl, _⟩ := h
    rfl
  · obtain ⟨a, os, rfl, ha, ho, q⟩ := h
    refine ⟨_, pss_cons (ps_set (i := 1) scNumberOf.nd rfl (.inl rfl) (pe_callO O_build hr (pa_cons (pv 0) pa_nil)))
      (pss_cons (ps_set (i := 2) scNumberOf.nd rfl (.inl rfl) (pe_callO O_sizes_in hr (pa_cons (pv 1) pa_nil)))
      (pss_cons (ps_set (i := 3) scNumberOf.nd rfl (.inl rfl) (pe_callO O_count_with hr (pa_cons (pv 2) pa_nil)))
      (pss_cons (ps_set (i := 4) scNumberOf.nd rfl (.inl rfl) pe_int)
      (pss_cons (ps_set (i := 5) scNumberOf.nd rfl (.inl rfl) (pe_callO O_keys_under hr (pa_cons (pv 1) (pa_cons (pe_lst (pa_cons pe_non pa_nil)) pa_nil))))
      (pss_cons (ps_for PassesOwn.never rfl (pi_list (pv 0)) (pg_name (i := 6) scNumberOf.nd rfl (.inl rfl))
      (pss_cons (ps_aug (i := 4) scNumberOf.nd rfl (.inl rfl) (pe_callO O_share hr (pa_cons (pv 3) (pa_cons (pv 2) (pa_cons (pv 5) (pa_cons (pe_callO O_smaller hr (pa_cons (pv 5) (pa_cons (pv 6) pa_nil))) pa_nil))))) ip_add)
        (pss_cons (ps_set (i := 3) scNumberOf.nd rfl (.inl rfl) (pe_callO O_share hr (pa_cons (pv 3) (pa_cons (pv 2) (pa_cons (pv 5) (pa_cons (pe_lst (pa_cons (pv 6) pa_nil)) pa_nil))))))
        (pss_one (ps_set (i := 5) scNumberOf.nd rfl (.inl rfl) (pe_callO O_free_after hr (pa_cons (pv 1) (pa_cons (pv 5) (pa_cons (pv 6) pa_nil)))))))))
      (pss_one (ps_ret (pv 4)))))))), ?_⟩
    refine ⟨_, rfl, a, os, rfl, ha, ho, fun H1 p ms s1 np hm ht => ?_⟩
    refine ⟨_, rfl, p, os, ms, rfl, ⟨ht, ho, hm⟩, fun H2 d s2 nd hd => ?_⟩
    refine ⟨_, rfl, d, os, ms, rfl, hd, ho.nd, ho.len, hm.1, fun H3 s3 => ?_⟩
    refine ⟨_, rfl, by show 1 ≤ sizeLine; decide, fun L nL => ?_⟩
    have s4 : Same H3 (upd H3 L (.lst [.non])) := same_upd nL
    have hL : (upd H3 L (.lst [.non])) L = some (.lst [.non]) := upd_same
    generalize upd H3 L (.lst [.non]) = H4 at s4 hL
    have s14 := s2.trans (s3.trans s4)
    refine ⟨p, L, _, [.non], rfl, ht.keep s14, pairs_len ho hm, hL, rfl, fun H5 fr s5 nfr hfr => ?_⟩
    have sd5 := s3.trans (s4.trans s5)
    have hd5 := sd5 _ _ hd
    have ht5 := ht.keep (s14.trans s5)
    have ha5 := (s1.trans (s14.trans s5)) _ _ ha
    have s05 := s1.trans (s14.trans s5)
    have hsz : ∀ k ∈ ms, sz os k ≤ 40 := fun k _ => Nat.le_trans (sz_le os k) ho.len
    have hin : ∀ {f l : List Int}, l.Perm (free os f) → ∀ k ∈ l, k ∈ ms := fun hl k hk => (asc_mem hm k).mpr (free_in hl k hk)
    refine ⟨_, rfl, a, rfl, ⟨_, SqL.of ha5⟩, ?_⟩
    refine for_list (xs := os.map V.int) (fun i σ G => ∃ (c N : Nat) (fl : Addr) (l : List Int) (y6 : Option V), σ = [some (.ref a), some (.ref p), some (.ref d), some (.int ((c : Nat) : Int)), some (.int ((N : Nat) : Int)), some (.ref fl), y6] ∧ Same H5 G ∧ G fl = some (.lst (l.map V.int)) ∧ l.Perm (free os (os.take i).reverse) ∧ Closed os (os.take i).reverse ∧ Go os (os.drop i) (os.take i).reverse ∧ c = ext os (os.drop i).length (os.take i).reverse ∧ N + rank os (os.drop i) (os.take i).reverse = rank os os [])
      ⟨cntO os, 0, fr, _, _, rfl, Same.refl _, hfr, free_start ho.nd hm, Closed.nil, go_self ho.nd, cntO_ext ho.nd, Nat.zero_add _⟩ (fun i σ G _ h => ?_) (fun i v σ G hv h => ?_) (fun σ G h => ?_)
    · obtain ⟨_, _, _, _, _, _, sm, _⟩ := h
      exact SqL.of (sm _ _ ha5)
    · obtain ⟨c, N, fl, l, y6, rfl, sm, hfl, hl, hcl, hgo, hc, hN⟩ := h
      obtain ⟨hi, rfl⟩ := get_int hv
      have hdr : os.drop i = os[i] :: os.drop (i + 1) := (List.getElem_cons_drop (h := hi)).symm
      have htr := take_rev hi
      rw [hdr] at hgo hc hN
      generalize os[i] = k at hdr htr hgo hc hN
      have hkf := hgo.1
      have hrl := go_len ho.nd hgo
      generalize (os.take i).reverse = f at hl hcl hgo hc hN hkf hrl htr
      rw [List.length_cons] at hrl hc
      have hll := free_len ho.len hl
      have hcb : c < 2 ^ 300 := by rw [hc, ← hrl]; exact ext_bits ho.nd ho.len hcl
      have hps := sum_pos ho.nd hcl hrl hl
      refine ⟨_, rfl, _, rfl, _, rfl, _, rfl, _, rfl, _, rfl, fl, l, k, rfl, SqL.of hfl, by omega, fun G2 b s2' nb hb => ?_⟩
      refine ⟨d, fl, b, c, sz os, ms, l, _, rfl, (sm.trans s2') _ _ hd5, s2' _ _ hfl, hb, hin hl, fun j hj => hin hl j (List.mem_filter.mp hj).1, hsz, hll, Nat.le_trans (List.length_filter_le _ _) hll, hcb, hps, fun G3 s3' => ?_⟩
      rw [hc, step_low ho.nd hcl hrl hl]
      refine ⟨_, _, rfl, rfl, ?_⟩
      have s23 := s2'.trans s3'
      refine ⟨_, rfl, _, rfl, _, rfl, _, rfl, by show 1 ≤ sizeLine; decide, fun L2' nL2 => ?_⟩
      have s4' : Same G3 (upd G3 L2' (.lst [.int k])) := same_upd nL2
      have hL2 : (upd G3 L2' (.lst [.int k])) L2' = some (.lst ([k].map V.int)) := upd_same
      generalize upd G3 L2' (.lst [.int k]) = G4 at s4' hL2
      have s24 := s23.trans s4'
      refine ⟨d, fl, L2', _, sz os, ms, l, [k], rfl, (sm.trans s24) _ _ hd5, s24 _ _ hfl, hL2, hin hl, fun j hj => by rw [List.mem_singleton.mp hj]; exact (asc_mem hm k).mpr (mem_free.mp hkf).1, hsz, hll, by show 1 ≤ 40; decide, by rw [← hc]; exact hcb, hps, fun G5 s5' => ?_⟩
      rw [step_one ho.nd hcl hrl hl hkf]
      have s25 := s24.trans s5'
      refine ⟨_, rfl, _, rfl, _, rfl, p, fl, os, ms, l, k, rfl, ⟨ht5.keep (sm.trans s25), ho, hm⟩, s25 _ _ hfl, hll, fun G6 fl' s6' nfl' hfl' => ?_⟩
      refine ⟨ext os (os.drop (i + 1)).length (k :: f), N + low (free os f) (fun j => ext os (os.drop (i + 1)).length (j :: f)) k, fl', _, some (.int k), ?_, sm.trans (s25.trans s6'), hfl', ?_, ?_, ?_, ?_, ?_⟩
      · rw [Int.natCast_add]
        exact rfl
      · rw [htr]
        exact free_step ho.nd hm hcl hl hkf
      · rw [htr]
        exact hcl.cons hkf
      · rw [htr]
        exact hgo.2
      · rw [htr]
      · rw [htr]
        have hN' : N + (low (free os f) (fun j => ext os (os.drop (i + 1)).length (j :: f)) k + rank os (os.drop (i + 1)) (k :: f)) = rank os os [] := hN
        omega
    · obtain ⟨c, N, fl, l, y6, rfl, sm, _, _, _, _, _, hN⟩ := h
      rw [List.length_map, List.drop_length] at hN
      have eN : N = rank os os [] := hN
      rw [eN]
      exact ⟨_, rfl, q G (s05.trans sm)⟩
end
end T1
namespace T1
open PySem PySem.Spec PyProof.Rows L2 TK BstM DatI
theorem all_mk {w : World} {K : PySem.W.Frag} {h : Heap} {mg : Str → Option Value} {fa : Addr} (X : K.In h) (G : h.Ns mainGlobals mg) (hfa : mg "law" = some (.ref fa))
    {f0 : Addr} {od0 an0 : Option Addr} {sl0 : Array (Option Value)} {oc0 kV0 dc0 pm0 cd0 ct0 : Value} {f1 : Addr} {od1 an1 : Option Addr} {sl1 : Array (Option Value)} {oc1 kV1 dc1 pm1 cd1 ct1 : Value} {f2 : Addr} {od2 an2 : Option Addr} {sl2 : Array (Option Value)} {oc2 kV2 dc2 pm2 cd2 ct2 : Value} {f3 : Addr} {od3 an3 : Option Addr} {sl3 : Array (Option Value)} {oc3 kV3 dc3 pm3 cd3 ct3 : Value} {f4 : Addr} {od4 an4 : Option Addr} {sl4 : Array (Option Value)} {oc4 kV4 dc4 pm4 cd4 ct4 : Value} {f5 : Addr} {od5 an5 : Option Addr} {sl5 : Array (Option Value)} {oc5 kV5 dc5 pm5 cd5 ct5 : Value} {f6 : Addr} {od6 an6 : Option Addr} {sl6 : Array (Option Value)} {oc6 kV6 dc6 pm6 cd6 ct6 : Value} {f7 : Addr} {od7 an7 : Option Addr} {sl7 : Array (Option Value)} {oc7 kV7 dc7 pm7 cd7 ct7 : Value} {f8 : Addr} {od8 an8 : Option Addr} {sl8 : Array (Option Value)} {oc8 kV8 dc8 pm8 cd8 ct8 : Value} {f9 : Addr} {od9 an9 : Option Addr} {sl9 : Array (Option Value)} {oc9 kV9 dc9 pm9 cd9 ct9 : Value} {f10 : Addr} {od10 an10 : Option Addr} {sl10 : Array (Option Value)} {oc10 kV10 dc10 pm10 cd10 ct10 : Value} {f11 : Addr} {od11 an11 : Option Addr} {sl11 : Array (Option Value)} {oc11 kV11 dc11 pm11 cd11 ct11 : Value} {f12 : Addr} {od12 an12 : Option Addr} {sl12 : Array (Option Value)} {oc12 kV12 dc12 pm12 cd12 ct12 : Value} {f13 : Addr} {od13 an13 : Option Addr} {sl13 : Array (Option Value)} {oc13 kV13 dc13 pm13 cd13 ct13 : Value} {f14 : Addr} {od14 an14 : Option Addr} {sl14 : Array (Option Value)} {oc14 kV14 dc14 pm14 cd14 ct14 : Value} {f15 : Addr} {od15 an15 : Option Addr} {sl15 : Array (Option Value)} {oc15 kV15 dc15 pm15 cd15 ct15 : Value} {f16 : Addr} {od16 an16 : Option Addr} {sl16 : Array (Option Value)} {oc16 kV16 dc16 pm16 cd16 ct16 : Value} {f17 : Addr} {od17 an17 : Option Addr} {sl17 : Array (Option Value)} {oc17 kV17 dc17 pm17 cd17 ct17 : Value} {f18 : Addr} {od18 an18 : Option Addr} {sl18 : Array (Option Value)} {oc18 kV18 dc18 pm18 cd18 ct18 : Value} {f19 : Addr} {od19 an19 : Option Addr} {sl19 : Array (Option Value)} {oc19 kV19 dc19 pm19 cd19 ct19 : Value} {f20 : Addr} {od20 an20 : Option Addr} {sl20 : Array (Option Value)} {oc20 kV20 dc20 pm20 cd20 ct20 : Value} {f21 : Addr} {od21 an21 : Option Addr} {sl21 : Array (Option Value)} {oc21 kV21 dc21 pm21 cd21 ct21 : Value} {f22 : Addr} {od22 an22 : Option Addr} {sl22 : Array (Option Value)} {oc22 kV22 dc22 pm22 cd22 ct22 : Value} {f23 : Addr} {od23 an23 : Option Addr} {sl23 : Array (Option Value)} {oc23 kV23 dc23 pm23 cd23 ct23 : Value} {f24 : Addr} {od24 an24 : Option Addr} {sl24 : Array (Option Value)} {oc24 kV24 dc24 pm24 cd24 ct24 : Value} {f25 : Addr} {od25 an25 : Option Addr} {sl25 : Array (Option Value)} {oc25 kV25 dc25 pm25 cd25 ct25 : Value} {f26 : Addr} {od26 an26 : Option Addr} {sl26 : Array (Option Value)} {oc26 kV26 dc26 pm26 cd26 ct26 : Value} {f27 : Addr} {od27 an27 : Option Addr} {sl27 : Array (Option Value)} {oc27 kV27 dc27 pm27 cd27 ct27 : Value} {f28 : Addr} {od28 an28 : Option Addr} {sl28 : Array (Option Value)} {oc28 kV28 dc28 pm28 cd28 ct28 : Value} {f29 : Addr} {od29 an29 : Option Addr} {sl29 : Array (Option Value)} {oc29 kV29 dc29 pm29 cd29 ct29 : Value} {f30 : Addr} {od30 an30 : Option Addr} {sl30 : Array (Option Value)} {oc30 kV30 dc30 pm30 cd30 ct30 : Value} {f31 : Addr} {od31 an31 : Option Addr} {sl31 : Array (Option Value)} {oc31 kV31 dc31 pm31 cd31 ct31 : Value} {f32 : Addr} {od32 an32 : Option Addr} {sl32 : Array (Option Value)} {oc32 kV32 dc32 pm32 cd32 ct32 : Value} {f33 : Addr} {od33 an33 : Option Addr} {sl33 : Array (Option Value)} {oc33 kV33 dc33 pm33 cd33 ct33 : Value}
    (a0 : PySem.W.nsIn K mainGlobals "_law_pool" = some (some (.ref f0))) (l0 : K.lookup f0 = some ⟨oc0, od0, .func (PySem.W.fnOf "_law_pool" "_law_pool" (defArgs sPool) (defBody sPool) (defScope sPool) .none kV0 dc0 pm0 an0 cd0 ct0), sl0⟩) (c0 : PySem.W.codeIn K cd0 "_law_pool" = true) (k0 : PySem.W.keepIn K (.ref f0) = true)
    (a1 : PySem.W.nsIn K mainGlobals "_law_draw" = some (some (.ref f1))) (l1 : K.lookup f1 = some ⟨oc1, od1, .func (PySem.W.fnOf "_law_draw" "_law_draw" (defArgs sDraw) (defBody sDraw) (defScope sDraw) .none kV1 dc1 pm1 an1 cd1 ct1), sl1⟩) (c1 : PySem.W.codeIn K cd1 "_law_draw" = true) (k1 : PySem.W.keepIn K (.ref f1) = true)
    (a2 : PySem.W.nsIn K mainGlobals "_law_keys" = some (some (.ref f2))) (l2 : K.lookup f2 = some ⟨oc2, od2, .func (PySem.W.fnOf "_law_keys" "_law_keys" (defArgs sKeys) (defBody sKeys) (defScope sKeys) .none kV2 dc2 pm2 an2 cd2 ct2), sl2⟩) (c2 : PySem.W.codeIn K cd2 "_law_keys" = true) (k2 : PySem.W.keepIn K (.ref f2) = true)
    (a3 : PySem.W.nsIn K mainGlobals "_law_permutations" = some (some (.ref f3))) (l3 : K.lookup f3 = some ⟨oc3, od3, .func (PySem.W.fnOf "_law_permutations" "_law_permutations" (defArgs sPerms) (defBody sPerms) (defScope sPerms) .none kV3 dc3 pm3 an3 cd3 ct3), sl3⟩) (c3 : PySem.W.codeIn K cd3 "_law_permutations" = true) (k3 : PySem.W.keepIn K (.ref f3) = true)
    (a4 : PySem.W.nsIn K mainGlobals "is_integer" = some (some (.ref f4))) (l4 : K.lookup f4 = some ⟨oc4, od4, .func (PySem.W.fnOf "is_integer" "is_integer" (defArgs sInteger) (defBody sInteger) (defScope sInteger) .none kV4 dc4 pm4 an4 cd4 ct4), sl4⟩) (c4 : PySem.W.codeIn K cd4 "is_integer" = true) (k4 : PySem.W.keepIn K (.ref f4) = true)
    (a5 : PySem.W.nsIn K mainGlobals "is_within" = some (some (.ref f5))) (l5 : K.lookup f5 = some ⟨oc5, od5, .func (PySem.W.fnOf "is_within" "is_within" (defArgs sWithin) (defBody sWithin) (defScope sWithin) .none kV5 dc5 pm5 an5 cd5 ct5), sl5⟩) (c5 : PySem.W.codeIn K cd5 "is_within" = true) (k5 : PySem.W.keepIn K (.ref f5) = true)
    (a6 : PySem.W.nsIn K mainGlobals "is_key" = some (some (.ref f6))) (l6 : K.lookup f6 = some ⟨oc6, od6, .func (PySem.W.fnOf "is_key" "is_key" (defArgs sIsKey) (defBody sIsKey) (defScope sIsKey) .none kV6 dc6 pm6 an6 cd6 ct6), sl6⟩) (c6 : PySem.W.codeIn K cd6 "is_key" = true) (k6 : PySem.W.keepIn K (.ref f6) = true)
    (a7 : PySem.W.nsIn K mainGlobals "check_order" = some (some (.ref f7))) (l7 : K.lookup f7 = some ⟨oc7, od7, .func (PySem.W.fnOf "check_order" "check_order" (defArgs sCheck) (defBody sCheck) (defScope sCheck) .none kV7 dc7 pm7 an7 cd7 ct7), sl7⟩) (c7 : PySem.W.codeIn K cd7 "check_order" = true) (k7 : PySem.W.keepIn K (.ref f7) = true)
    (a8 : PySem.W.nsIn K mainGlobals "keys_above" = some (some (.ref f8))) (l8 : K.lookup f8 = some ⟨oc8, od8, .func (PySem.W.fnOf "keys_above" "keys_above" (defArgs sKAbove) (defBody sKAbove) (defScope sKAbove) .none kV8 dc8 pm8 an8 cd8 ct8), sl8⟩) (c8 : PySem.W.codeIn K cd8 "keys_above" = true) (k8 : PySem.W.keepIn K (.ref f8) = true)
    (a9 : PySem.W.nsIn K mainGlobals "parent_in" = some (some (.ref f9))) (l9 : K.lookup f9 = some ⟨oc9, od9, .func (PySem.W.fnOf "parent_in" "parent_in" (defArgs sParentIn) (defBody sParentIn) (defScope sParentIn) .none kV9 dc9 pm9 an9 cd9 ct9), sl9⟩) (c9 : PySem.W.codeIn K cd9 "parent_in" = true) (k9 : PySem.W.keepIn K (.ref f9) = true)
    (a10 : PySem.W.nsIn K mainGlobals "tree_after" = some (some (.ref f10))) (l10 : K.lookup f10 = some ⟨oc10, od10, .func (PySem.W.fnOf "tree_after" "tree_after" (defArgs sAfter) (defBody sAfter) (defScope sAfter) .none kV10 dc10 pm10 an10 cd10 ct10), sl10⟩) (c10 : PySem.W.codeIn K cd10 "tree_after" = true) (k10 : PySem.W.keepIn K (.ref f10) = true)
    (a11 : PySem.W.nsIn K mainGlobals "build" = some (some (.ref f11))) (l11 : K.lookup f11 = some ⟨oc11, od11, .func (PySem.W.fnOf "build" "build" (defArgs sBuild) (defBody sBuild) (defScope sBuild) .none kV11 dc11 pm11 an11 cd11 ct11), sl11⟩) (c11 : PySem.W.codeIn K cd11 "build" = true) (k11 : PySem.W.keepIn K (.ref f11) = true)
    (a12 : PySem.W.nsIn K mainGlobals "is_pair" = some (some (.ref f12))) (l12 : K.lookup f12 = some ⟨oc12, od12, .func (PySem.W.fnOf "is_pair" "is_pair" (defArgs sPair) (defBody sPair) (defScope sPair) .none kV12 dc12 pm12 an12 cd12 ct12), sl12⟩) (c12 : PySem.W.codeIn K cd12 "is_pair" = true) (k12 : PySem.W.keepIn K (.ref f12) = true)
    (a13 : PySem.W.nsIn K mainGlobals "keys_in" = some (some (.ref f13))) (l13 : K.lookup f13 = some ⟨oc13, od13, .func (PySem.W.fnOf "keys_in" "keys_in" (defArgs sKeysIn) (defBody sKeysIn) (defScope sKeysIn) .none kV13 dc13 pm13 an13 cd13 ct13), sl13⟩) (c13 : PySem.W.codeIn K cd13 "keys_in" = true) (k13 : PySem.W.keepIn K (.ref f13) = true)
    (a14 : PySem.W.nsIn K mainGlobals "has_tree_form" = some (some (.ref f14))) (l14 : K.lookup f14 = some ⟨oc14, od14, .func (PySem.W.fnOf "has_tree_form" "has_tree_form" (defArgs sForm) (defBody sForm) (defScope sForm) .none kV14 dc14 pm14 an14 cd14 ct14), sl14⟩) (c14 : PySem.W.codeIn K cd14 "has_tree_form" = true) (k14 : PySem.W.keepIn K (.ref f14) = true)
    (a15 : PySem.W.nsIn K mainGlobals "keys_under" = some (some (.ref f15))) (l15 : K.lookup f15 = some ⟨oc15, od15, .func (PySem.W.fnOf "keys_under" "keys_under" (defArgs sUnder) (defBody sUnder) (defScope sUnder) .none kV15 dc15 pm15 an15 cd15 ct15), sl15⟩) (c15 : PySem.W.codeIn K cd15 "keys_under" = true) (k15 : PySem.W.keepIn K (.ref f15) = true)
    (a16 : PySem.W.nsIn K mainGlobals "rows_of" = some (some (.ref f16))) (l16 : K.lookup f16 = some ⟨oc16, od16, .func (PySem.W.fnOf "rows_of" "rows_of" (defArgs sRows) (defBody sRows) (defScope sRows) .none kV16 dc16 pm16 an16 cd16 ct16), sl16⟩) (c16 : PySem.W.codeIn K cd16 "rows_of" = true) (k16 : PySem.W.keepIn K (.ref f16) = true)
    (a17 : PySem.W.nsIn K mainGlobals "row_by_row" = some (some (.ref f17))) (l17 : K.lookup f17 = some ⟨oc17, od17, .func (PySem.W.fnOf "row_by_row" "row_by_row" (defArgs sRbr) (defBody sRbr) (defScope sRbr) .none kV17 dc17 pm17 an17 cd17 ct17), sl17⟩) (c17 : PySem.W.codeIn K cd17 "row_by_row" = true) (k17 : PySem.W.keepIn K (.ref f17) = true)
    (a18 : PySem.W.nsIn K mainGlobals "is_tree" = some (some (.ref f18))) (l18 : K.lookup f18 = some ⟨oc18, od18, .func (PySem.W.fnOf "is_tree" "is_tree" (defArgs sIsTree) (defBody sIsTree) (defScope sIsTree) .none kV18 dc18 pm18 an18 cd18 ct18), sl18⟩) (c18 : PySem.W.codeIn K cd18 "is_tree" = true) (k18 : PySem.W.keepIn K (.ref f18) = true)
    (a19 : PySem.W.nsIn K mainGlobals "check_tree" = some (some (.ref f19))) (l19 : K.lookup f19 = some ⟨oc19, od19, .func (PySem.W.fnOf "check_tree" "check_tree" (defArgs sCheckT) (defBody sCheckT) (defScope sCheckT) .none kV19 dc19 pm19 an19 cd19 ct19), sl19⟩) (c19 : PySem.W.codeIn K cd19 "check_tree" = true) (k19 : PySem.W.keepIn K (.ref f19) = true)
    (a20 : PySem.W.nsIn K mainGlobals "factorial" = some (some (.ref f20))) (l20 : K.lookup f20 = some ⟨oc20, od20, .func (PySem.W.fnOf "factorial" "factorial" (defArgs sFactP) (defBody sFactP) (defScope sFactP) .none kV20 dc20 pm20 an20 cd20 ct20), sl20⟩) (c20 : PySem.W.codeIn K cd20 "factorial" = true) (k20 : PySem.W.keepIn K (.ref f20) = true)
    (a21 : PySem.W.nsIn K mainGlobals "count_with" = some (some (.ref f21))) (l21 : K.lookup f21 = some ⟨oc21, od21, .func (PySem.W.fnOf "count_with" "count_with" (defArgs sCountW) (defBody sCountW) (defScope sCountW) .none kV21 dc21 pm21 an21 cd21 ct21), sl21⟩) (c21 : PySem.W.codeIn K cd21 "count_with" = true) (k21 : PySem.W.keepIn K (.ref f21) = true)
    (a22 : PySem.W.nsIn K mainGlobals "parents_in" = some (some (.ref f22))) (l22 : K.lookup f22 = some ⟨oc22, od22, .func (PySem.W.fnOf "parents_in" "parents_in" (defArgs sParIn) (defBody sParIn) (defScope sParIn) .none kV22 dc22 pm22 an22 cd22 ct22), sl22⟩) (c22 : PySem.W.codeIn K cd22 "parents_in" = true) (k22 : PySem.W.keepIn K (.ref f22) = true)
    (a23 : PySem.W.nsIn K mainGlobals "path_in" = some (some (.ref f23))) (l23 : K.lookup f23 = some ⟨oc23, od23, .func (PySem.W.fnOf "path_in" "path_in" (defArgs sPathIn) (defBody sPathIn) (defScope sPathIn) .none kV23 dc23 pm23 an23 cd23 ct23), sl23⟩) (c23 : PySem.W.codeIn K cd23 "path_in" = true) (k23 : PySem.W.keepIn K (.ref f23) = true)
    (a24 : PySem.W.nsIn K mainGlobals "sizes_in" = some (some (.ref f24))) (l24 : K.lookup f24 = some ⟨oc24, od24, .func (PySem.W.fnOf "sizes_in" "sizes_in" (defArgs sSizes) (defBody sSizes) (defScope sSizes) .none kV24 dc24 pm24 an24 cd24 ct24), sl24⟩) (c24 : PySem.W.codeIn K cd24 "sizes_in" = true) (k24 : PySem.W.keepIn K (.ref f24) = true)
    (a25 : PySem.W.nsIn K mainGlobals "count_orders" = some (some (.ref f25))) (l25 : K.lookup f25 = some ⟨oc25, od25, .func (PySem.W.fnOf "count_orders" "count_orders" (defArgs sCountO) (defBody sCountO) (defScope sCountO) .none kV25 dc25 pm25 an25 cd25 ct25), sl25⟩) (c25 : PySem.W.codeIn K cd25 "count_orders" = true) (k25 : PySem.W.keepIn K (.ref f25) = true)
    (a26 : PySem.W.nsIn K mainGlobals "_law_factorial" = some (some (.ref f26))) (l26 : K.lookup f26 = some ⟨oc26, od26, .func (PySem.W.fnOf "_law_factorial" "_law_factorial" (defArgs sFact) (defBody sFact) (defScope sFact) .none kV26 dc26 pm26 an26 cd26 ct26), sl26⟩) (c26 : PySem.W.codeIn K cd26 "_law_factorial" = true) (k26 : PySem.W.keepIn K (.ref f26) = true)
    (a27 : PySem.W.nsIn K mainGlobals "share" = some (some (.ref f27))) (l27 : K.lookup f27 = some ⟨oc27, od27, .func (PySem.W.fnOf "share" "share" (defArgs sShare) (defBody sShare) (defScope sShare) .none kV27 dc27 pm27 an27 cd27 ct27), sl27⟩) (c27 : PySem.W.codeIn K cd27 "share" = true) (k27 : PySem.W.keepIn K (.ref f27) = true)
    (a28 : PySem.W.nsIn K mainGlobals "free_after" = some (some (.ref f28))) (l28 : K.lookup f28 = some ⟨oc28, od28, .func (PySem.W.fnOf "free_after" "free_after" (defArgs sFreeAfter) (defBody sFreeAfter) (defScope sFreeAfter) .none kV28 dc28 pm28 an28 cd28 ct28), sl28⟩) (c28 : PySem.W.codeIn K cd28 "free_after" = true) (k28 : PySem.W.keepIn K (.ref f28) = true)
    (a29 : PySem.W.nsIn K mainGlobals "smaller" = some (some (.ref f29))) (l29 : K.lookup f29 = some ⟨oc29, od29, .func (PySem.W.fnOf "smaller" "smaller" (defArgs sSmaller) (defBody sSmaller) (defScope sSmaller) .none kV29 dc29 pm29 an29 cd29 ct29), sl29⟩) (c29 : PySem.W.codeIn K cd29 "smaller" = true) (k29 : PySem.W.keepIn K (.ref f29) = true)
    (a30 : PySem.W.nsIn K mainGlobals "order_with" = some (some (.ref f30))) (l30 : K.lookup f30 = some ⟨oc30, od30, .func (PySem.W.fnOf "order_with" "order_with" (defArgs sOrderWith) (defBody sOrderWith) (defScope sOrderWith) .none kV30 dc30 pm30 an30 cd30 ct30), sl30⟩) (c30 : PySem.W.codeIn K cd30 "order_with" = true) (k30 : PySem.W.keepIn K (.ref f30) = true)
    (a31 : PySem.W.nsIn K mainGlobals "order_at" = some (some (.ref f31))) (l31 : K.lookup f31 = some ⟨oc31, od31, .func (PySem.W.fnOf "order_at" "order_at" (defArgs sOrderAt) (defBody sOrderAt) (defScope sOrderAt) .none kV31 dc31 pm31 an31 cd31 ct31), sl31⟩) (c31 : PySem.W.codeIn K cd31 "order_at" = true) (k31 : PySem.W.keepIn K (.ref f31) = true)
    (a32 : PySem.W.nsIn K mainGlobals "number_of" = some (some (.ref f32))) (l32 : K.lookup f32 = some ⟨oc32, od32, .func (PySem.W.fnOf "number_of" "number_of" (defArgs sNumberOf) (defBody sNumberOf) (defScope sNumberOf) .none kV32 dc32 pm32 an32 cd32 ct32), sl32⟩) (c32 : PySem.W.codeIn K cd32 "number_of" = true) (k32 : PySem.W.keepIn K (.ref f32) = true)
    (a33 : PySem.W.nsIn K mainGlobals "law" = some (some (.ref f33))) (l33 : K.lookup f33 = some ⟨oc33, od33, .func (PySem.W.fnOf "law" "law" (defArgs sLaw) (defBody sLaw) (defScope sLaw) .none kV33 dc33 pm33 an33 cd33 ct33), sl33⟩) (c33 : PySem.W.codeIn K cd33 "law" = true) (k33 : PySem.W.keepIn K (.ref f33) = true)
    (z0 : PySem.W.nsIn K mainGlobals "isinstance" = some none)
    (z1 : PySem.W.nsIn K mainGlobals "int" = some none)
    (z2 : PySem.W.nsIn K mainGlobals "bool" = some none)
    (z3 : PySem.W.nsIn K mainGlobals "list" = some none)
    (z4 : PySem.W.nsIn K mainGlobals "len" = some none)
    (z5 : PySem.W.nsIn K mainGlobals "set" = some none)
    (z6 : PySem.W.nsIn K mainGlobals "enumerate" = some none)
    (z7 : PySem.W.nsIn K mainGlobals "sorted" = some none)
    (z8 : PySem.W.nsIn K mainGlobals "tuple" = some none)
    (z9 : PySem.W.nsIn K mainGlobals "abs" = some none)
    (z10 : PySem.W.nsIn K mainGlobals "range" = some none)
    (z11 : PySem.W.nsIn K mainGlobals "min" = some none)
    (z12 : PySem.W.nsIn K mainGlobals "max" = some none)
    (z13 : PySem.W.nsIn K mainGlobals "all" = some none)
    (z14 : PySem.W.nsIn K mainGlobals "zip" = some none)
    (z15 : PySem.W.nsIn K mainGlobals "repr" = some none)
    (z16 : PySem.W.nsIn K mainGlobals "sum" = some none)
    (z17 : PySem.W.nsIn K mainGlobals "reversed" = some none)
    (z18 : PySem.W.nsIn K mainGlobals "dict" = some none)
    {t1 t2 : Tok} (m1 : PySem.W.nsIn K mainGlobals "MAX_KEYS" = some (some (.int 40 t1))) (m2 : PySem.W.nsIn K mainGlobals "MAX_KEY" = some (some (.int (10 ^ 18) t2)))
    {P : Program} {base : Heap} {s : Shared} {H : Hp} {a : Addr} {ns : List Int} (hlen : ns.length ≤ 63) (hS : SqL K H a (ns.map V.int)) (e0 : Env0 P w K mg base callerA [] s H) :
    codeAny (model P w) callerA (.call (.ref fa) ⟨[.ref a], []⟩) (CR CX0 [] P w H s (fun v _ => v = .bl true) (fun _ _ _ => False)) s := by
  have e := hfa.symm.trans (PySem.W.mg_of X G a33)
  cases e
  have F0 := fun_mk (st := sPool) l0 c0 k0
  have h0 : Has K mg "_law_pool" sPool := ⟨_, _, F0, PySem.W.mg_of X G a0⟩
  have F1 := fun_mk (st := sDraw) l1 c1 k1
  have h1 : Has K mg "_law_draw" sDraw := ⟨_, _, F1, PySem.W.mg_of X G a1⟩
  have F2 := fun_mk (st := sKeys) l2 c2 k2
  have h2 : Has K mg "_law_keys" sKeys := ⟨_, _, F2, PySem.W.mg_of X G a2⟩
  have F3 := fun_mk (st := sPerms) l3 c3 k3
  have h3 : Has K mg "_law_permutations" sPerms := ⟨_, _, F3, PySem.W.mg_of X G a3⟩
  have F4 := fun_mk (st := sInteger) l4 c4 k4
  have h4 : Has K mg "is_integer" sInteger := ⟨_, _, F4, PySem.W.mg_of X G a4⟩
  have F5 := fun_mk (st := sWithin) l5 c5 k5
  have h5 : Has K mg "is_within" sWithin := ⟨_, _, F5, PySem.W.mg_of X G a5⟩
  have F6 := fun_mk (st := sIsKey) l6 c6 k6
  have h6 : Has K mg "is_key" sIsKey := ⟨_, _, F6, PySem.W.mg_of X G a6⟩
  have F7 := fun_mk (st := sCheck) l7 c7 k7
  have h7 : Has K mg "check_order" sCheck := ⟨_, _, F7, PySem.W.mg_of X G a7⟩
  have F8 := fun_mk (st := sKAbove) l8 c8 k8
  have h8 : Has K mg "keys_above" sKAbove := ⟨_, _, F8, PySem.W.mg_of X G a8⟩
  have F9 := fun_mk (st := sParentIn) l9 c9 k9
  have h9 : Has K mg "parent_in" sParentIn := ⟨_, _, F9, PySem.W.mg_of X G a9⟩
  have F10 := fun_mk (st := sAfter) l10 c10 k10
  have h10 : Has K mg "tree_after" sAfter := ⟨_, _, F10, PySem.W.mg_of X G a10⟩
  have F11 := fun_mk (st := sBuild) l11 c11 k11
  have h11 : Has K mg "build" sBuild := ⟨_, _, F11, PySem.W.mg_of X G a11⟩
  have F12 := fun_mk (st := sPair) l12 c12 k12
  have h12 : Has K mg "is_pair" sPair := ⟨_, _, F12, PySem.W.mg_of X G a12⟩
  have F13 := fun_mk (st := sKeysIn) l13 c13 k13
  have h13 : Has K mg "keys_in" sKeysIn := ⟨_, _, F13, PySem.W.mg_of X G a13⟩
  have F14 := fun_mk (st := sForm) l14 c14 k14
  have h14 : Has K mg "has_tree_form" sForm := ⟨_, _, F14, PySem.W.mg_of X G a14⟩
  have F15 := fun_mk (st := sUnder) l15 c15 k15
  have h15 : Has K mg "keys_under" sUnder := ⟨_, _, F15, PySem.W.mg_of X G a15⟩
  have F16 := fun_mk (st := sRows) l16 c16 k16
  have h16 : Has K mg "rows_of" sRows := ⟨_, _, F16, PySem.W.mg_of X G a16⟩
  have F17 := fun_mk (st := sRbr) l17 c17 k17
  have h17 : Has K mg "row_by_row" sRbr := ⟨_, _, F17, PySem.W.mg_of X G a17⟩
  have F18 := fun_mk (st := sIsTree) l18 c18 k18
  have h18 : Has K mg "is_tree" sIsTree := ⟨_, _, F18, PySem.W.mg_of X G a18⟩
  have F19 := fun_mk (st := sCheckT) l19 c19 k19
  have h19 : Has K mg "check_tree" sCheckT := ⟨_, _, F19, PySem.W.mg_of X G a19⟩
  have F20 := fun_mk (st := sFactP) l20 c20 k20
  have h20 : Has K mg "factorial" sFactP := ⟨_, _, F20, PySem.W.mg_of X G a20⟩
  have F21 := fun_mk (st := sCountW) l21 c21 k21
  have h21 : Has K mg "count_with" sCountW := ⟨_, _, F21, PySem.W.mg_of X G a21⟩
  have F22 := fun_mk (st := sParIn) l22 c22 k22
  have h22 : Has K mg "parents_in" sParIn := ⟨_, _, F22, PySem.W.mg_of X G a22⟩
  have F23 := fun_mk (st := sPathIn) l23 c23 k23
  have h23 : Has K mg "path_in" sPathIn := ⟨_, _, F23, PySem.W.mg_of X G a23⟩
  have F24 := fun_mk (st := sSizes) l24 c24 k24
  have h24 : Has K mg "sizes_in" sSizes := ⟨_, _, F24, PySem.W.mg_of X G a24⟩
  have F25 := fun_mk (st := sCountO) l25 c25 k25
  have h25 : Has K mg "count_orders" sCountO := ⟨_, _, F25, PySem.W.mg_of X G a25⟩
  have F26 := fun_mk (st := sFact) l26 c26 k26
  have h26 : Has K mg "_law_factorial" sFact := ⟨_, _, F26, PySem.W.mg_of X G a26⟩
  have F27 := fun_mk (st := sShare) l27 c27 k27
  have h27 : Has K mg "share" sShare := ⟨_, _, F27, PySem.W.mg_of X G a27⟩
  have F28 := fun_mk (st := sFreeAfter) l28 c28 k28
  have h28 : Has K mg "free_after" sFreeAfter := ⟨_, _, F28, PySem.W.mg_of X G a28⟩
  have F29 := fun_mk (st := sSmaller) l29 c29 k29
  have h29 : Has K mg "smaller" sSmaller := ⟨_, _, F29, PySem.W.mg_of X G a29⟩
  have F30 := fun_mk (st := sOrderWith) l30 c30 k30
  have h30 : Has K mg "order_with" sOrderWith := ⟨_, _, F30, PySem.W.mg_of X G a30⟩
  have F31 := fun_mk (st := sOrderAt) l31 c31 k31
  have h31 : Has K mg "order_at" sOrderAt := ⟨_, _, F31, PySem.W.mg_of X G a31⟩
  have F32 := fun_mk (st := sNumberOf) l32 c32 k32
  have h32 : Has K mg "number_of" sNumberOf := ⟨_, _, F32, PySem.W.mg_of X G a32⟩
  have F33 := fun_mk (st := sLaw) l33 c33 k33
  have N : Names mg := { isi := PySem.W.mg_none_of X G z0, int := PySem.W.mg_none_of X G z1, bool := PySem.W.mg_none_of X G z2, list := PySem.W.mg_none_of X G z3, len := PySem.W.mg_none_of X G z4, set := PySem.W.mg_none_of X G z5, enum := PySem.W.mg_none_of X G z6, sorted := PySem.W.mg_none_of X G z7, tuple := PySem.W.mg_none_of X G z8, abs := PySem.W.mg_none_of X G z9, range := PySem.W.mg_none_of X G z10, min := PySem.W.mg_none_of X G z11, max := PySem.W.mg_none_of X G z12, all := PySem.W.mg_none_of X G z13, zip := PySem.W.mg_none_of X G z14, repr := PySem.W.mg_none_of X G z15, sum := PySem.W.mg_none_of X G z16, reversed := PySem.W.mg_none_of X G z17, dict := PySem.W.mg_none_of X G z18, maxKeys := ⟨t1, PySem.W.mg_of X G m1⟩, maxKey := ⟨t2, PySem.W.mg_of X G m2⟩ }
  have o__law_pool := ok_pool (P := P) (w := w) (base := base)  h0   N
  have o__law_draw := ok_draw (P := P) (w := w) (base := base)  h1   N
  have o__law_keys := ok_keys (P := P) (w := w) (base := base)  h2 o__law_draw  N
  have o__law_permutations := ok_perms (P := P) (w := w) (base := base)  h3   N
  have o_is_integer := ok_integer (P := P) (w := w) (base := base)  h4   N
  have o_is_within := ok_within (P := P) (w := w) (base := base)  h5 o_is_integer  N
  have o_is_key := ok_isKey (P := P) (w := w) (base := base)  h6 o_is_within  N
  have o_check_order := ok_check (P := P) (w := w) (base := base)  h7 o_is_key  N
  have o_keys_above := ok_kAbove (P := P) (w := w) (base := base)  h8   N
  have o_parent_in := ok_parentIn (P := P) (w := w) (base := base)  h9 o_keys_above  N
  have o_tree_after := ok_after (P := P) (w := w) (base := base)  h10 o_parent_in  N
  have o_build := ok_build (P := P) (w := w) (base := base)  h11 o_check_order o_tree_after  N
  have o_is_pair := ok_pair (P := P) (w := w) (base := base)  h12 o_is_key  N
  have o_keys_in := ok_keysIn (P := P) (w := w) (base := base)  h13   N
  have o_has_tree_form := ok_form (P := P) (w := w) (base := base)  h14 o_is_pair o_keys_in  N
  have o_keys_under := ok_under (P := P) (w := w) (base := base)  h15   N
  have o_rows_of := ok_rows (P := P) (w := w) (base := base)  h16 o_keys_under  N
  have o_row_by_row := ok_rbr (P := P) (w := w) (base := base)  h17 o_rows_of  N
  have o_is_tree := ok_isTree (P := P) (w := w) (base := base)  h18 o_has_tree_form o_tree_after o_row_by_row  N
  have o_check_tree := ok_checkT (P := P) (w := w) (base := base)  h19 o_is_tree  N
  have o_factorial := ok_factP (P := P) (w := w) (base := base)  h20   N
  have o_count_with := ok_countW (P := P) (w := w) (base := base)  h21 o_factorial  N
  have o_parents_in := ok_parIn (P := P) (w := w) (base := base)  h22   N
  have o_path_in := ok_pathIn (P := P) (w := w) (base := base)  h23   N
  have o_sizes_in := ok_sizes (P := P) (w := w) (base := base)  h24 o_parents_in o_path_in  N
  have o_count_orders := ok_countO (P := P) (w := w) (base := base)  h25 o_check_tree o_count_with o_sizes_in  N
  have o__law_factorial := ok_fact (P := P) (w := w) (base := base)  h26   N
  have o_share := ok_Share (P := P) (w := w) (base := base)  h27   N
  have o_free_after := ok_FreeAfter (P := P) (w := w) (base := base)  h28 o_keys_under  N
  have o_smaller := ok_Smaller (P := P) (w := w) (base := base)  h29   N
  have o_order_with := ok_OrderWith (P := P) (w := w) (base := base)  h30 o_count_with o_keys_under o_share o_free_after o_smaller  N
  have o_order_at := ok_OrderAt (P := P) (w := w) (base := base)  h31 o_check_tree o_sizes_in o_order_with o_is_within o_count_with  N
  have o_number_of := ok_NumberOf (P := P) (w := w) (base := base)  h32 o_build o_sizes_in o_count_with o_keys_under o_share o_free_after o_smaller  N
  exact ok_law F33 o__law_pool o__law_keys o__law_permutations o__law_draw o_build o_count_orders o__law_factorial o_order_at o_number_of  N (.of_eq rfl) hS hlen e0
end T1
open PySem PySem.W PyProof.Rows
set_option maxHeartbeats 0 in
theorem PySem.Challenge.cw_insertionorders_k28_whole_all_orders_are_holds : PySem.Challenge.rw_insertionorders_k28_whole_all_orders_are.Holds := by
  w_on; o_law; k_head; (case hw => w_witness2)
  k_fill
  refine L2.walk_top (l := PySem.Challenge.rw_insertionorders_k28_whole_all_orders_are) (n := 63) rfl (by decide) rfl (fun w h Y => PySem.W.kIn_of Y) ?F
  case F =>
    intro w mg fa h KX G hmg base s H a ns kb nb hl hS e0
    refine' T1.all_mk KX G hmg ?a0 ?l0 ?c0 ?k0 ?a1 ?l1 ?c1 ?k1 ?a2 ?l2 ?c2 ?k2 ?a3 ?l3 ?c3 ?k3 ?a4 ?l4 ?c4 ?k4 ?a5 ?l5 ?c5 ?k5 ?a6 ?l6 ?c6 ?k6 ?a7 ?l7 ?c7 ?k7 ?a8 ?l8 ?c8 ?k8 ?a9 ?l9 ?c9 ?k9 ?a10 ?l10 ?c10 ?k10 ?a11 ?l11 ?c11 ?k11 ?a12 ?l12 ?c12 ?k12 ?a13 ?l13 ?c13 ?k13 ?a14 ?l14 ?c14 ?k14 ?a15 ?l15 ?c15 ?k15 ?a16 ?l16 ?c16 ?k16 ?a17 ?l17 ?c17 ?k17 ?a18 ?l18 ?c18 ?k18 ?a19 ?l19 ?c19 ?k19 ?a20 ?l20 ?c20 ?k20 ?a21 ?l21 ?c21 ?k21 ?a22 ?l22 ?c22 ?k22 ?a23 ?l23 ?c23 ?k23 ?a24 ?l24 ?c24 ?k24 ?a25 ?l25 ?c25 ?k25 ?a26 ?l26 ?c26 ?k26 ?a27 ?l27 ?c27 ?k27 ?a28 ?l28 ?c28 ?k28 ?a29 ?l29 ?c29 ?k29 ?a30 ?l30 ?c30 ?k30 ?a31 ?l31 ?c31 ?k31 ?a32 ?l32 ?c32 ?k32 ?a33 ?l33 ?c33 ?k33 ?z0 ?z1 ?z2 ?z3 ?z4 ?z5 ?z6 ?z7 ?z8 ?z9 ?z10 ?z11 ?z12 ?z13 ?z14 ?z15 ?z16 ?z17 ?z18 ?m1 ?m2 hl hS e0
    (case a0 => k_is); (case l0 => k_is); (case c0 => k_is); (case k0 => k_is); (case a1 => k_is); (case l1 => k_is); (case c1 => k_is); (case k1 => k_is); (case a2 => k_is); (case l2 => k_is); (case c2 => k_is); (case k2 => k_is); (case a3 => k_is); (case l3 => k_is); (case c3 => k_is); (case k3 => k_is); (case a4 => k_is); (case l4 => k_is); (case c4 => k_is); (case k4 => k_is); (case a5 => k_is); (case l5 => k_is); (case c5 => k_is); (case k5 => k_is); (case a6 => k_is); (case l6 => k_is); (case c6 => k_is); (case k6 => k_is); (case a7 => k_is); (case l7 => k_is); (case c7 => k_is); (case k7 => k_is); (case a8 => k_is); (case l8 => k_is); (case c8 => k_is); (case k8 => k_is); (case a9 => k_is); (case l9 => k_is); (case c9 => k_is); (case k9 => k_is); (case a10 => k_is); (case l10 => k_is); (case c10 => k_is); (case k10 => k_is); (case a11 => k_is); (case l11 => k_is); (case c11 => k_is); (case k11 => k_is); (case a12 => k_is); (case l12 => k_is); (case c12 => k_is); (case k12 => k_is); (case a13 => k_is); (case l13 => k_is); (case c13 => k_is); (case k13 => k_is); (case a14 => k_is); (case l14 => k_is); (case c14 => k_is); (case k14 => k_is); (case a15 => k_is); (case l15 => k_is); (case c15 => k_is); (case k15 => k_is); (case a16 => k_is); (case l16 => k_is); (case c16 => k_is); (case k16 => k_is); (case a17 => k_is); (case l17 => k_is); (case c17 => k_is); (case k17 => k_is); (case a18 => k_is); (case l18 => k_is); (case c18 => k_is); (case k18 => k_is); (case a19 => k_is); (case l19 => k_is); (case c19 => k_is); (case k19 => k_is); (case a20 => k_is); (case l20 => k_is); (case c20 => k_is); (case k20 => k_is); (case a21 => k_is); (case l21 => k_is); (case c21 => k_is); (case k21 => k_is); (case a22 => k_is); (case l22 => k_is); (case c22 => k_is); (case k22 => k_is); (case a23 => k_is); (case l23 => k_is); (case c23 => k_is); (case k23 => k_is); (case a24 => k_is); (case l24 => k_is); (case c24 => k_is); (case k24 => k_is); (case a25 => k_is); (case l25 => k_is); (case c25 => k_is); (case k25 => k_is); (case a26 => k_is); (case l26 => k_is); (case c26 => k_is); (case k26 => k_is); (case a27 => k_is); (case l27 => k_is); (case c27 => k_is); (case k27 => k_is); (case a28 => k_is); (case l28 => k_is); (case c28 => k_is); (case k28 => k_is); (case a29 => k_is); (case l29 => k_is); (case c29 => k_is); (case k29 => k_is); (case a30 => k_is); (case l30 => k_is); (case c30 => k_is); (case k30 => k_is); (case a31 => k_is); (case l31 => k_is); (case c31 => k_is); (case k31 => k_is); (case a32 => k_is); (case l32 => k_is); (case c32 => k_is); (case k32 => k_is); (case a33 => k_is); (case l33 => k_is); (case c33 => k_is); (case k33 => k_is); (case z0 => k_is); (case z1 => k_is); (case z2 => k_is); (case z3 => k_is); (case z4 => k_is); (case z5 => k_is); (case z6 => k_is); (case z7 => k_is); (case z8 => k_is); (case z9 => k_is); (case z10 => k_is); (case z11 => k_is); (case z12 => k_is); (case z13 => k_is); (case z14 => k_is); (case z15 => k_is); (case z16 => k_is); (case z17 => k_is); (case z18 => k_is); (case m1 => k_is); (case m2 => k_is)
