/-
  Tries as trees: prefixes, sides, the common prefix, places, what is put and taken away; no walk.
  Conditions: none but that bytes are bytes.
-/
import Derived.Test.YtgbbgkbpafpnbaaCa
namespace Go.Proofs.Ytgbbgkbpafpnbaa
open Go.ChangeShapes Go.WideShapes Go.ChangeAt Go.RowKit
set_option linter.unusedVariables false

/-- A prefix. -/
structure Px where
  b : Bool
  xs : List Nat
  n : Int
theorem Px.ext' {p q : Px} (h1 : p.b = q.b) (h2 : p.xs = q.xs) (h3 : p.n = q.n) : p = q := by
  cases p; cases q; cases h1; cases h2; cases h3; rfl
theorem Px.eq_iff {p q : Px} : ((p.b = q.b ∧ p.xs = q.xs) ∧ p.n = q.n) ↔ p = q :=
  ⟨fun h => Px.ext' h.1.1 h.1.2 h.2, fun h => by subst h; exact ⟨⟨rfl, rfl⟩, rfl⟩⟩
instance : DecidableEq Px := fun p q => decidable_of_iff _ Px.eq_iff
/-- A valid prefix. -/
def okP (p : Px) : Prop := Bytes p.xs ∧ validP p.b p.xs p.n = true
def cov (q p : Px) : Bool := covP q.b q.xs q.n p.b p.xs p.n
def has (q : Px) (c : Bool) (ys : List Nat) : Bool := contP q.b q.xs q.n c ys
/-- The bit behind the first n. -/
def bitP (ys : List Nat) (n : Int) : Bool := decide (bitX ys n.toNat = 1)
def halfB (c : Bool) (ys : List Nat) (n : Int) : Bool := if pofB c ys n then c else false
def halfX (c : Bool) (ys : List Nat) (n : Int) : List Nat := if pofB c ys n then pofX c ys n else zeros
/-- The side below a prefix on the way to an address. -/
def sideB (q : Px) (c : Bool) (ys : List Nat) : Bool := !decide (halfB c ys (q.n + 1) = q.b ∧ halfX c ys (q.n + 1) = q.xs)

theorem okP.parts {p : Px} (h : okP p) : validA p.b p.xs = true ∧ 0 ≤ p.n ∧ p.n ≤ bitsOf p.b ∧ ∀ i : Nat, i < 128 → p.n ≤ i → (i : Int) < bitsOf p.b → bitX p.xs i = 0 := validP_parts h.2
theorem okP.zero {p : Px} (h : okP p) {i : Nat} (hi : i < 128) (hn : p.n ≤ i) : bitX p.xs i = 0 := by
  by_cases hb : (i : Int) < bitsOf p.b
  · exact h.parts.2.2.2 i hi hn hb
  · exact valid_bit h.1 h.parts.1 (by omega)
theorem bit_two (xs : List Nat) (i : Nat) : bitX xs i = 0 ∨ bitX xs i = 1 := by have : bitX xs i < 2 := Nat.mod_lt _ (by decide); omega
theorem has_iff {q : Px} {c : Bool} {ys : List Nat} : has q c ys = true ↔ validP q.b q.xs q.n = true ∧ validA c ys = true ∧ q.b = c ∧ ∀ i : Nat, i < 128 → (i : Int) < q.n → bitX q.xs i = bitX ys i := contP_iff
theorem cov_iff {q p : Px} : cov q p = true ↔ validP p.b p.xs p.n = true ∧ q.n ≤ p.n ∧ has q p.b p.xs = true := covP_iff
theorem cov_self {p : Px} (h : okP p) : cov p p = true := cov_iff.2 ⟨h.2, Int.le_refl _, has_iff.2 ⟨h.2, h.parts.1, rfl, fun _ _ _ => rfl⟩⟩
theorem cov_has {q p : Px} {c : Bool} {ys : List Nat} (h : cov q p = true) (k : has p c ys = true) : has q c ys = true := cov_cont h k
theorem cov_trans {q p r : Px} (h : cov q p = true) (k : cov p r = true) : cov q r = true := by
  obtain ⟨k1, k2, k3⟩ := cov_iff.1 k
  exact cov_iff.2 ⟨k1, Int.le_trans (cov_iff.1 h).2.1 k2, cov_has h k3⟩
theorem cov_b {q p : Px} (h : cov q p = true) : q.b = p.b := (has_iff.1 (cov_iff.1 h).2.2).2.2.1
theorem cov_bits {q p : Px} (h : cov q p = true) {i : Nat} (hi : i < 128) (hn : (i : Int) < q.n) : bitX q.xs i = bitX p.xs i := (has_iff.1 (cov_iff.1 h).2.2).2.2.2 i hi hn
theorem cov_le {q p : Px} (h : cov q p = true) : q.n ≤ p.n := (cov_iff.1 h).2.1
/-- Two prefixes that cover each other are one. -/
theorem cov_anti {q p : Px} (hq : okP q) (hp : okP p) (h : cov q p = true) (hn : p.n ≤ q.n) : q = p := by
  have he : q.n = p.n := Int.le_antisymm (cov_le h) hn
  refine Px.ext' (cov_b h) (bits_ext hq.1 hp.1 fun i hi => ?_) he
  by_cases h1 : (i : Int) < q.n
  · exact cov_bits h hi h1
  · rw [hq.zero hi (by omega), hp.zero hi (by omega)]
theorem cov_lt {q p : Px} (hq : okP q) (hp : okP p) (h : cov q p = true) (hne : q ≠ p) : q.n < p.n := by
  by_cases hn : p.n ≤ q.n
  · exact absurd (cov_anti hq hp h hn) hne
  · omega
theorem ok_le {p : Px} (h : okP p) : p.n ≤ 128 := Int.le_trans h.parts.2.2.1 (bitsOf_le _).2

/-- The side is the next bit. -/
theorem side_bit {q : Px} {c : Bool} {ys : List Nat} (hq : okP q) (hy : Bytes ys) (hh : has q c ys = true) (hn : q.n < bitsOf q.b) : sideB q c ys = bitP ys q.n := by
  obtain ⟨_, hv, hb, hbits⟩ := has_iff.1 hh
  have h0 := hq.parts.2.1
  have hB := (bitsOf_le q.b).2
  have hp : pofB c ys (q.n + 1) = true := by
    unfold pofB
    rw [hv, decide_eq_true (by omega), decide_eq_true (by rw [← hb]; omega)]
    rfl
  have hX : ∀ j, bitX (pofX c ys (q.n + 1)) j = if q.n + 1 ≤ (j : Int) ∧ (j : Int) < bitsOf c then 0 else bitX ys j := pofX_bit hy (by omega) (by rw [← hb]; omega)
  have key : pofX c ys (q.n + 1) = q.xs ↔ bitX ys q.n.toNat = 0 := by
    constructor
    · intro h
      have h1 := hX q.n.toNat
      rw [h, if_neg (by omega), hq.zero (by omega) (by omega)] at h1
      exact h1.symm
    · intro h
      refine bits_ext (pofX_bytes hy _) hq.1 fun i hi => ?_
      rw [hX]
      by_cases h1 : q.n + 1 ≤ (i : Int) ∧ (i : Int) < bitsOf c
      · rw [if_pos h1, hq.zero hi (by omega)]
      · rw [if_neg h1]
        by_cases h2 : (i : Int) < q.n
        · exact (hbits i hi h2).symm
        · rw [hq.zero hi (by omega)]
          by_cases h3 : (i : Int) = q.n
          · rw [show i = q.n.toNat by omega]; exact h
          · exact valid_bit hy hv (by omega)
  unfold sideB halfB halfX bitP
  rw [if_pos hp, if_pos hp]
  rcases bit_two ys q.n.toNat with h | h
  · rw [decide_eq_true ⟨hb.symm, key.2 h⟩, h]; rfl
  · rw [decide_eq_false (fun hc => by have := key.1 hc.2; omega), h]; rfl

/-- The prefix of an address. -/
def pofP (c : Bool) (ys : List Nat) (n : Int) : Px := ⟨c, pofX c ys n, n⟩
/-- The length of what two prefixes have in common, from k down. -/
def comK (p q : Px) : Nat → Nat
  | 0 => 0
  | k + 1 => if has (pofP p.b p.xs ((k + 1 : Nat) : Int)) q.b q.xs then k + 1 else comK p q k
def com (p q : Px) : Px := pofP p.b p.xs (comK p q (min p.n q.n).toNat : Nat)
theorem comK_le (p q : Px) : ∀ k, comK p q k ≤ k
  | 0 => Nat.le_refl _
  | k + 1 => by unfold comK; split; exact Nat.le_refl _; exact Nat.le_succ_of_le (comK_le p q k)
theorem pofP_bit {p : Px} (hp : okP p) {k : Nat} (hk : (k : Int) ≤ p.n) {i : Nat} (hi : i < 128) (hik : i < k) : bitX (pofP p.b p.xs k).xs i = bitX p.xs i := by
  have h := hp.parts
  show bitX (pofX p.b p.xs k) i = _
  rw [pofX_bit hp.1 (by omega) (by omega), if_neg (by omega)]
theorem pofB_ok {p : Px} (hp : okP p) {k : Nat} (hk : (k : Int) ≤ p.n) : pofB p.b p.xs k = true := by
  have h := hp.parts
  unfold pofB
  rw [h.1, decide_eq_true (by omega), decide_eq_true (by omega)]; rfl
theorem pofP_ok {p : Px} (hp : okP p) {k : Nat} (hk : (k : Int) ≤ p.n) : okP (pofP p.b p.xs k) := ⟨pofX_bytes hp.1 _, pof_valid hp.1 (pofB_ok hp hk)⟩
theorem pofP_cov {p : Px} (hp : okP p) {k : Nat} (hk : (k : Int) ≤ p.n) : cov (pofP p.b p.xs k) p = true :=
  cov_iff.2 ⟨hp.2, hk, pof_cont hp.1 (pofB_ok hp hk)⟩
/-- A prefix of p that holds q's address agrees with both. -/
theorem pofP_has {p q : Px} (hp : okP p) (hq : okP q) (hb : p.b = q.b) {k : Nat} (hk : (k : Int) ≤ p.n) : has (pofP p.b p.xs k) q.b q.xs = true ↔ ∀ i, i < k → bitX p.xs i = bitX q.xs i := by
  have hl := ok_le hp
  constructor
  · intro h i hi
    have h1 := (has_iff.1 h).2.2.2 i (by omega) (by show (i : Int) < (k : Int); omega)
    rw [pofP_bit hp hk (by omega) hi] at h1
    exact h1
  · intro h
    refine has_iff.2 ⟨(pofP_ok hp hk).2, hq.parts.1, hb, fun i hi hik => ?_⟩
    have hik' : i < k := by have h2 : (i : Int) < (k : Int) := hik; omega
    rw [pofP_bit hp hk hi hik']
    exact h i hik'
theorem comK_spec {p q : Px} (hp : okP p) (hq : okP q) (hb : p.b = q.b) : ∀ k : Nat, (k : Int) ≤ p.n → (∀ i, i < comK p q k → bitX p.xs i = bitX q.xs i) ∧ (∀ m, m ≤ k → (∀ i, i < m → bitX p.xs i = bitX q.xs i) → m ≤ comK p q k)
  | 0, _ => ⟨fun i hi => absurd hi (Nat.not_lt_zero _), fun m hm _ => hm⟩
  | k + 1, hk => by
    have hi := comK_spec hp hq hb k (by omega)
    by_cases h : has (pofP p.b p.xs ((k + 1 : Nat) : Int)) q.b q.xs = true
    · rw [comK, if_pos h]
      exact ⟨(pofP_has hp hq hb hk).1 h, fun m hm _ => hm⟩
    · rw [comK, if_neg h]
      refine ⟨hi.1, fun m hm hag => ?_⟩
      by_cases hmk : m ≤ k
      · exact hi.2 m hmk hag
      · obtain rfl : m = k + 1 := by omega
        exact absurd ((pofP_has hp hq hb hk).2 hag) h
/-- What the common prefix is. -/
theorem com_spec {p q : Px} (hp : okP p) (hq : okP q) (hb : p.b = q.b) : okP (com p q) ∧ cov (com p q) p = true ∧ cov (com p q) q = true ∧ (com p q).n ≤ p.n ∧ (com p q).n ≤ q.n ∧ (∀ m : Nat, (m : Int) ≤ p.n → (m : Int) ≤ q.n → (∀ i, i < m → bitX p.xs i = bitX q.xs i) → (m : Int) ≤ (com p q).n) := by
  have hp0 := hp.parts.2.1
  have hq0 := hq.parts.2.1
  have hle := comK_le p q (min p.n q.n).toNat
  obtain ⟨k, hk⟩ : ∃ k, comK p q (min p.n q.n).toNat = k := ⟨_, rfl⟩
  have hs := comK_spec hp hq hb (min p.n q.n).toNat (by omega)
  rw [hk] at hle hs
  have hkp : (k : Int) ≤ p.n := by omega
  have hkq : (k : Int) ≤ q.n := by omega
  have hc : com p q = pofP p.b p.xs k := by unfold com; rw [hk]
  rw [hc]
  exact ⟨pofP_ok hp hkp, pofP_cov hp hkp, cov_iff.2 ⟨hq.2, hkq, (pofP_has hp hq hb hkp).2 hs.1⟩, hkp, hkq, fun m h1 h2 h3 => by have := hs.2 m (by omega) h3; show (m : Int) ≤ (k : Int); omega⟩
/-- Where neither covers the other, the next bits differ. -/
theorem com_split {p q : Px} (hp : okP p) (hq : okP q) (hb : p.b = q.b) (h1 : (com p q).n < p.n) (h2 : (com p q).n < q.n) : bitP p.xs (com p q).n ≠ bitP q.xs (com p q).n := by
  obtain ⟨c1, c2, c3, c4, c5, c6⟩ := com_spec hp hq hb
  intro h
  have h0 := c1.parts.2.1
  have hl := ok_le hp
  have hbit : bitX p.xs (com p q).n.toNat = bitX q.xs (com p q).n.toNat := by
    unfold bitP at h
    rcases bit_two p.xs (com p q).n.toNat with e1 | e1 <;> rcases bit_two q.xs (com p q).n.toNat with e2 | e2 <;> simp [e1, e2] at h ⊢
  have := c6 ((com p q).n.toNat + 1) (by omega) (by omega) fun i hi => by
    by_cases he : i = (com p q).n.toNat
    · rw [he]; exact hbit
    · rw [← cov_bits c2 (i := i) (by omega) (by omega), ← cov_bits c3 (i := i) (by omega) (by omega)]
  omega
/-- What covers both covers what they have in common. -/
theorem com_cov {p q r : Px} (hp : okP p) (hq : okP q) (hr : okP r) (h1 : cov r p = true) (h2 : cov r q = true) : cov r (com p q) = true := by
  have hb : p.b = q.b := (cov_b h1).symm.trans (cov_b h2)
  obtain ⟨c1, c2, c3, c4, c5, c6⟩ := com_spec hp hq hb
  have hr0 := hr.parts.2.1
  have hl := ok_le hp
  have hle : r.n ≤ (com p q).n := by
    have := c6 r.n.toNat (by have := cov_le h1; omega) (by have := cov_le h2; omega) fun i hi => by
      rw [← cov_bits h1 (i := i) (by have := cov_le h1; omega) (by omega), ← cov_bits h2 (i := i) (by have := cov_le h1; omega) (by omega)]
    omega
  refine cov_iff.2 ⟨c1.2, hle, has_iff.2 ⟨hr.2, c1.parts.1, (cov_b h1).trans (cov_b c2).symm, fun i hi hir => ?_⟩⟩
  rw [cov_bits h1 hi hir, cov_bits c2 hi (by omega)]
theorem com_bit {p q r : Px} (hp : okP p) (hq : okP q) (hr : okP r) (h1 : cov r p = true) (h2 : cov r q = true) (n1 : r.n < p.n) (n2 : r.n < q.n) (hb : bitP p.xs r.n = bitP q.xs r.n) : r.n < (com p q).n ∧ bitP (com p q).xs r.n = bitP p.xs r.n := by
  have hbb : p.b = q.b := (cov_b h1).symm.trans (cov_b h2)
  obtain ⟨c1, c2, c3, c4, c5, c6⟩ := com_spec hp hq hbb
  have hr0 := hr.parts.2.1
  have hl := ok_le hp
  have hbit : bitX p.xs r.n.toNat = bitX q.xs r.n.toNat := by
    unfold bitP at hb
    rcases bit_two p.xs r.n.toNat with e1 | e1 <;> rcases bit_two q.xs r.n.toNat with e2 | e2 <;> simp [e1, e2] at hb ⊢
  have hlt : r.n < (com p q).n := by
    have := c6 (r.n.toNat + 1) (by omega) (by omega) fun i hi => by
      by_cases he : i = r.n.toNat
      · rw [he]; exact hbit
      · rw [← cov_bits h1 (i := i) (by omega) (by omega), ← cov_bits h2 (i := i) (by omega) (by omega)]
    omega
  refine ⟨hlt, ?_⟩
  unfold bitP
  rw [cov_bits c2 (by omega) (by omega)]

/-- A tree: a node's block, its prefix, the block of its value and the value, what lies below. -/
inductive Tr where
  | nil : Tr
  | node : Nat → Px → Option (Nat × Value) → Tr → Tr → Tr
def Tr.all : Tr → List Px
  | .nil => []
  | .node _ q _ l r => q :: (l.all ++ r.all)
def ent (q : Px) : Option (Nat × Value) → List (Px × Value)
  | none => []
  | some (_, x) => [(q, x)]
def Tr.toL : Tr → List (Px × Value)
  | .nil => []
  | .node _ q v l r => ent q v ++ (l.toL ++ r.toL)
def Under (q : Px) (d : Bool) (t : Tr) : Prop := ∀ p ∈ t.all, cov q p = true ∧ q.n < p.n ∧ bitP p.xs q.n = d
def Wf : Tr → Prop
  | .nil => True
  | .node _ q _ l r => okP q ∧ Under q false l ∧ Under q true r ∧ Wf l ∧ Wf r
theorem Wf.ok : ∀ {t : Tr}, Wf t → ∀ p ∈ t.all, okP p
  | .nil, _, p, hp => by cases hp
  | .node _ q _ l r, h, p, hp => by
    rcases List.mem_cons.1 hp with rfl | hp
    · exact h.1
    · rcases List.mem_append.1 hp with hp | hp
      · exact Wf.ok h.2.2.2.1 p hp
      · exact Wf.ok h.2.2.2.2 p hp
theorem ent_key {q : Px} {v : Option (Nat × Value)} {e : Px × Value} (h : e ∈ ent q v) : e.1 = q := by
  cases v with
  | none => cases h
  | some u => rw [List.mem_singleton.1 h]
theorem toL_all : ∀ {t : Tr} {e : Px × Value}, e ∈ t.toL → e.1 ∈ t.all
  | .nil, e, h => by cases h
  | .node _ q v l r, e, h => by
    rcases List.mem_append.1 h with h | h
    · exact List.mem_cons.2 (.inl (ent_key h))
    · refine List.mem_cons.2 (.inr (List.mem_append.2 ?_))
      rcases List.mem_append.1 h with h | h
      · exact .inl (toL_all h)
      · exact .inr (toL_all h)
/-- What lies below a prefix is longer than what it has room for. -/
theorem Under.room {q : Px} {d : Bool} {t : Tr} (hq : okP q) (h : Under q d t) (ht : Wf t) (hne : t.all ≠ []) : q.n < bitsOf q.b := by
  cases ha : t.all with
  | nil => exact absurd ha hne
  | cons p ps =>
    have hp : p ∈ t.all := by rw [ha]; exact List.mem_cons_self
    obtain ⟨h1, h2, _⟩ := h p hp
    have h3 := (ht.ok p hp).parts.2.2.1
    rw [← cov_b h1] at h3
    omega
/-- On the way to a longer prefix that it covers, a prefix has room, and the side is the bit. -/
theorem side_cov {q p : Px} (hq : okP q) (hp : okP p) (h : cov q p = true) (hn : q.n < p.n) : sideB q p.b p.xs = bitP p.xs q.n := by
  refine side_bit hq hp.1 (cov_iff.1 h).2.2 ?_
  have := hp.parts.2.2.1
  rw [cov_b h]
  omega

/-- The way to a prefix. -/
def fp : Tr → Px → List Bool
  | .nil, _ => []
  | .node _ q _ l r, p => if q ≠ p ∧ cov q p = true then (if sideB q p.b p.xs = true then true :: fp r p else false :: fp l p) else []
def sub : Tr → List Bool → Tr
  | t, [] => t
  | .nil, _ :: _ => .nil
  | .node _ _ _ l r, d :: ds => if d = true then sub r ds else sub l ds
def plug : Tr → List Bool → Tr → Tr
  | _, [], s => s
  | .nil, _ :: _, s => .nil
  | .node g q v l r, d :: ds, s => if d = true then .node g q v l (plug r ds s) else .node g q v (plug l ds s) r
/-- A node with one tree on a side, another on the other. -/
def fork (g : Nat) (q : Px) (v : Option (Nat × Value)) (d : Bool) (s u : Tr) : Tr := if d = true then .node g q v u s else .node g q v s u
/-- What takes the place at the end of the way to p. -/
def top (p : Px) (v : Nat × Value) (g1 g2 : Nat) : Tr → Tr
  | .nil => .node g1 p (some v) .nil .nil
  | .node g q u l r => if q = p then .node g q (some v) l r else if com q p = p then fork g1 p (some v) (sideB p q.b q.xs) (.node g q u l r) .nil else fork g1 (com q p) none (sideB (com q p) q.b q.xs) (.node g q u l r) (.node g2 p (some v) .nil .nil)
/-- The tree with p's value. -/
def ins (p : Px) (v : Nat × Value) (g1 g2 : Nat) : Tr → Tr
  | .nil => .node g1 p (some v) .nil .nil
  | .node g q u l r => if q ≠ p ∧ cov q p = true then (if sideB q p.b p.xs = true then .node g q u l (ins p v g1 g2 r) else .node g q u (ins p v g1 g2 l) r) else top p v g1 g2 (.node g q u l r)
theorem ins_plug (p : Px) (v : Nat × Value) (g1 g2 : Nat) : ∀ t : Tr, ins p v g1 g2 t = plug t (fp t p) (top p v g1 g2 (sub t (fp t p)))
  | .nil => rfl
  | .node g q u l r => by
    rw [ins, fp]
    by_cases h : q ≠ p ∧ cov q p = true
    · rw [if_pos h, if_pos h]
      by_cases hs : sideB q p.b p.xs = true
      · rw [if_pos hs, if_pos hs, plug, sub, if_pos rfl, if_pos rfl, ins_plug p v g1 g2 r]
      · rw [if_neg hs, if_neg hs, plug, sub, if_neg (by decide), if_neg (by decide), ins_plug p v g1 g2 l]
    · rw [if_neg h, if_neg h]; rfl
theorem fork_all (g : Nat) (q : Px) (v : Option (Nat × Value)) (d : Bool) (s u : Tr) (p : Px) : p ∈ (fork g q v d s u).all ↔ p = q ∨ p ∈ s.all ∨ p ∈ u.all := by
  unfold fork
  cases d <;> simp [Tr.all] <;> constructor <;> (rintro (h | h | h) <;> simp [h])
theorem fork_wf {g : Nat} {q : Px} {v : Option (Nat × Value)} {d : Bool} {s u : Tr} (hq : okP q) (h1 : Under q d s) (h2 : Under q (!d) u) (k1 : Wf s) (k2 : Wf u) : Wf (fork g q v d s u) := by
  unfold fork
  cases d
  · exact ⟨hq, h1, h2, k1, k2⟩
  · exact ⟨hq, h2, h1, k2, k1⟩
theorem under_nil (q : Px) (d : Bool) : Under q d .nil := fun p hp => by cases hp
/-- What covers the root of a tree, on one side, has all of it on that side. -/
theorem under_node {q q' : Px} {g : Nat} {u : Option (Nat × Value)} {l r : Tr} (hw : Wf (.node g q' u l r)) (h : cov q q' = true) (hn : q.n < q'.n) (hq : okP q) : Under q (bitP q'.xs q.n) (.node g q' u l r) := by
  have hq'8 := ok_le hw.1
  have hq0 := hq.parts.2.1
  intro p hp
  have hc : cov q' p = true := by
    rcases List.mem_cons.1 hp with rfl | hp
    · exact cov_self hw.1
    · rcases List.mem_append.1 hp with hp | hp
      · exact (hw.2.1 p hp).1
      · exact (hw.2.2.1 p hp).1
  refine ⟨cov_trans h hc, by have := cov_le hc; omega, ?_⟩
  unfold bitP
  rw [cov_bits hc (by omega) (by omega)]
/-- A tree's top, once p is put there. -/
theorem top_wf {p : Px} {v : Nat × Value} {g1 g2 : Nat} (hp : okP p) : ∀ {t : Tr}, Wf t → (∀ q ∈ t.all, q.b = p.b) → (∀ g q u l r, t = .node g q u l r → q ≠ p → cov q p = true → False) → Wf (top p v g1 g2 t)
  | .nil, _, _, _ => ⟨hp, under_nil _ _, under_nil _ _, trivial, trivial⟩
  | .node g q u l r, hw, hb, hn => by
    have hqp : q.b = p.b := hb q List.mem_cons_self
    rw [top]
    by_cases h1 : q = p
    · rw [if_pos h1]; exact ⟨hw.1, hw.2.1, hw.2.2.1, hw.2.2.2.1, hw.2.2.2.2⟩
    · rw [if_neg h1]
      obtain ⟨c1, c2, c3, c4, c5, c6⟩ := com_spec hw.1 hp hqp
      by_cases h2 : com q p = p
      · rw [if_pos h2]
        rw [h2] at c2
        have hlt := cov_lt hp hw.1 c2 (fun h => h1 h.symm)
        rw [side_cov hp hw.1 c2 hlt]
        exact fork_wf hp (under_node hw c2 hlt hp) (under_nil _ _) hw trivial
      · rw [if_neg h2]
        have hlt : (com q p).n < q.n := by
          refine cov_lt c1 hw.1 c2 fun h => ?_
          rw [h] at c3
          exact hn g q u l r rfl h1 c3
        have hlp := cov_lt c1 hp c3 h2
        rw [side_cov c1 hw.1 c2 hlt]
        refine fork_wf c1 (under_node hw c2 hlt c1) ?_ hw ⟨hp, under_nil _ _, under_nil _ _, trivial, trivial⟩
        intro r' hr'
        obtain rfl : r' = p := by simpa [Tr.all] using hr'
        refine ⟨c3, hlp, ?_⟩
        have := com_split hw.1 hp hqp hlt hlp
        revert this
        cases bitP q.xs (com q r').n <;> cases bitP r'.xs (com q r').n <;> simp
theorem top_all {p : Px} {v : Nat × Value} {g1 g2 : Nat} : ∀ {t : Tr} {r : Px}, r ∈ (top p v g1 g2 t).all → r = p ∨ r ∈ t.all ∨ ∃ g q u l r', t = .node g q u l r' ∧ r = com q p
  | .nil, r, h => .inl (by simpa [top, Tr.all] using h)
  | .node g q u l r', r, h => by
    rw [top] at h
    split at h
    · exact .inr (.inl h)
    · split at h
      · rcases (fork_all _ _ _ _ _ _ _).1 h with h | h | h
        · exact .inl h
        · exact .inr (.inl h)
        · cases h
      · rcases (fork_all _ _ _ _ _ _ _).1 h with h | h | h
        · exact .inr (.inr ⟨g, q, u, l, r', rfl, h⟩)
        · exact .inr (.inl h)
        · exact .inl (by simpa [Tr.all] using h)
/-- What is in the tree once p is put in. -/
theorem ins_all {p : Px} {v : Nat × Value} {g1 g2 : Nat} : ∀ {t : Tr} {r : Px}, r ∈ (ins p v g1 g2 t).all → r = p ∨ r ∈ t.all ∨ ∃ q ∈ t.all, r = com q p
  | .nil, r, h => .inl (by simpa [ins, Tr.all] using h)
  | .node g q u l r', r, h => by
    unfold ins at h
    split at h
    · split at h
      · rcases List.mem_cons.1 h with h | h
        · exact .inr (.inl (List.mem_cons.2 (.inl h)))
        · rcases List.mem_append.1 h with h | h
          · exact .inr (.inl (List.mem_cons.2 (.inr (List.mem_append.2 (.inl h)))))
          · rcases ins_all h with h | h | ⟨q', hq', h⟩
            · exact .inl h
            · exact .inr (.inl (List.mem_cons.2 (.inr (List.mem_append.2 (.inr h)))))
            · exact .inr (.inr ⟨q', List.mem_cons.2 (.inr (List.mem_append.2 (.inr hq'))), h⟩)
      · rcases List.mem_cons.1 h with h | h
        · exact .inr (.inl (List.mem_cons.2 (.inl h)))
        · rcases List.mem_append.1 h with h | h
          · rcases ins_all h with h | h | ⟨q', hq', h⟩
            · exact .inl h
            · exact .inr (.inl (List.mem_cons.2 (.inr (List.mem_append.2 (.inl h)))))
            · exact .inr (.inr ⟨q', List.mem_cons.2 (.inr (List.mem_append.2 (.inl hq'))), h⟩)
          · exact .inr (.inl (List.mem_cons.2 (.inr (List.mem_append.2 (.inr h)))))
    · rcases top_all h with h | h | ⟨g', q', u', l', r'', he, h⟩
      · exact .inl h
      · exact .inr (.inl h)
      · cases he
        exact .inr (.inr ⟨q, List.mem_cons_self, h⟩)
theorem ins_under {p q : Px} {v : Nat × Value} {g1 g2 : Nat} {d : Bool} {t : Tr} (hq : okP q) (hp : okP p) (hw : Wf t) (h : Under q d t) (hc : cov q p = true) (hn : q.n < p.n) (hd : bitP p.xs q.n = d) : Under q d (ins p v g1 g2 t) := by
  intro r hr
  rcases ins_all hr with rfl | hr | ⟨q', hq', rfl⟩
  · exact ⟨hc, hn, hd⟩
  · exact h r hr
  · obtain ⟨h1, h2, h3⟩ := h q' hq'
    have hb := com_bit (hw.ok q' hq') hp hq h1 hc h2 hn (h3.trans hd.symm)
    exact ⟨com_cov (hw.ok q' hq') hp hq h1 hc, hb.1, hb.2.trans h3⟩
theorem ins_wf {p : Px} {v : Nat × Value} {g1 g2 : Nat} (hp : okP p) : ∀ {t : Tr}, Wf t → (∀ q ∈ t.all, q.b = p.b) → Wf (ins p v g1 g2 t)
  | .nil, _, _ => ⟨hp, under_nil _ _, under_nil _ _, trivial, trivial⟩
  | .node g q u l r, hw, hb => by
    unfold ins
    by_cases h : q ≠ p ∧ cov q p = true
    · rw [if_pos h]
      have hlt := cov_lt hw.1 hp h.2 h.1
      rw [side_cov hw.1 hp h.2 hlt]
      cases hbit : bitP p.xs q.n with
      | true =>
        rw [if_pos rfl]
        exact ⟨hw.1, hw.2.1, ins_under hw.1 hp hw.2.2.2.2 hw.2.2.1 h.2 hlt hbit, hw.2.2.2.1, ins_wf hp hw.2.2.2.2 fun q' hq' => hb q' (List.mem_cons.2 (.inr (List.mem_append.2 (.inr hq'))))⟩
      | false =>
        rw [if_neg (by decide)]
        exact ⟨hw.1, ins_under hw.1 hp hw.2.2.2.1 hw.2.1 h.2 hlt hbit, hw.2.2.1, ins_wf hp hw.2.2.2.1 fun q' hq' => hb q' (List.mem_cons.2 (.inr (List.mem_append.2 (.inl hq')))), hw.2.2.2.2⟩
    · rw [if_neg h]
      refine top_wf hp hw hb fun g' q' u' l' r' he h1 h2 => ?_
      cases he
      exact h ⟨h1, h2⟩
theorem ins_fam {p : Px} {v : Nat × Value} {g1 g2 : Nat} {t : Tr} (hb : ∀ q ∈ t.all, q.b = p.b) : ∀ q ∈ (ins p v g1 g2 t).all, q.b = p.b := by
  intro r hr
  rcases ins_all hr with rfl | hr | ⟨q', hq', rfl⟩
  · rfl
  · exact hb r hr
  · exact hb q' hq'
end Go.Proofs.Ytgbbgkbpafpnbaa
