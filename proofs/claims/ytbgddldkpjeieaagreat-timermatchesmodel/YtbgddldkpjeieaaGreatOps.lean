/-
  How a list of operations that came in lies in memory; the timers and the reference side by side; no walk.
  Conditions: as each theorem says.
-/
import Derived.Test.YtbgddldkpjeieaaGreatSame
import Derived.Test.YtbgddldkpjeieaaGreatRef7
import Derived.Test.YtbgddldkpjeieaaGreatRef4
import Derived.Test.YtbgddldkpjeieaaGreatAwake
import Derived.Deep.Slices
namespace Go.Proofs.YtbgddldkpjeieaaGreat
open Go.ChangeShapes Go.WideShapes Go.ChangeAt Go.RowKit Go.Maps
set_option linter.unusedVariables false

def OpAt (w : World) (a : Option Addr) (i : Nat) (k o d x y z : Int) : Prop := ∃ b off, a = some ⟨b, off, none⟩ ∧ w.cell? ⟨b, off + i * 6, none⟩ = some (.int .i64 k) ∧ w.cell? ⟨b, off + i * 6 + 1, none⟩ = some (.int .i64 o) ∧ w.cell? ⟨b, off + i * 6 + 2, none⟩ = some (.int .u64 d) ∧ w.cell? ⟨b, off + i * 6 + 3, none⟩ = some (.int .i64 x) ∧ w.cell? ⟨b, off + i * 6 + 4, none⟩ = some (.int .i64 y) ∧ w.cell? ⟨b, off + i * 6 + 5, none⟩ = some (.int .i64 z)

def OpRow (w : World) (a : Option Addr) (n : Nat) : Prop := n ≤ 9223372036854775807 ∧ ∀ i, i < n → ∃ k o d x y z : Int, OpAt w a i k o d x y z ∧ (-9223372036854775808 ≤ k ∧ k ≤ 9223372036854775807) ∧ (-9223372036854775808 ≤ o ∧ o ≤ 9223372036854775807) ∧ (0 ≤ d ∧ d ≤ 18446744073709551615)

theorem OpAt.fr {S : Nat → Prop} {w w' : World} {a : Option Addr} {i : Nat} {k o d x y z : Int} (h : OpAt w a i k o d x y z) (hf : Fr S w w') (hS : ∀ j, S j → w.heap.size ≤ j) : OpAt w' a i k o d x y z := by
  obtain ⟨b, off, rfl, h0, h1, h2, h3, h4, h5⟩ := h
  have hb : b < w.heap.size := block_lt_of_cell h0
  have hk := hf.block b hb (fun hs => Nat.not_lt.2 (hS b hs) hb)
  exact ⟨b, off, rfl, (World.cell?_of_block (a := ⟨b, off + i * 6, none⟩) hk).trans h0, (World.cell?_of_block (a := ⟨b, off + i * 6 + 1, none⟩) hk).trans h1, (World.cell?_of_block (a := ⟨b, off + i * 6 + 2, none⟩) hk).trans h2, (World.cell?_of_block (a := ⟨b, off + i * 6 + 3, none⟩) hk).trans h3, (World.cell?_of_block (a := ⟨b, off + i * 6 + 4, none⟩) hk).trans h4, (World.cell?_of_block (a := ⟨b, off + i * 6 + 5, none⟩) hk).trans h5⟩

theorem cells33 : Tryz.prog.cellsOf 33 = 6 := by kernel_rfl
theorem cells3 : Tryz.prog.cellsOf 3 = 1 := by kernel_rfl
theorem cells31 : Tryz.prog.cellsOf 31 = 1 := by kernel_rfl
theorem cells26 : Tryz.prog.cellsOf 26 = 3 := by kernel_rfl

theorem one_of {cs : List Value} {r : Nat} {v : Value} (h : (cs.drop r).take 1 = [v]) : cs[r]? = some v := by
  have h1 : ((cs.drop r).take 1)[0]? = some v := by rw [h]; rfl
  rw [List.getElem?_take, if_pos (by omega), List.getElem?_drop] at h1
  simpa using h1

theorem three_of {cs : List Value} {r j : Nat} {v : Value} (hj : j < 3) (h : (((cs.drop r).take 3).drop j).take 1 = [v]) : cs[r + j]? = some v := by
  have h1 := one_of h
  rw [List.getElem?_take, if_pos hj, List.getElem?_drop] at h1
  exact h1

theorem ops_open {H : Type} {enc : TypeId × Value → H} {w : World} {spare : Nat → Bool} {held : Bool} {fuel : Nat} {a : Option Addr} {n c : Nat} {x : DataW H × List MemPlace} (h : DataW.trod enc Tryz.prog w 0 spare held fuel 22 [.slice a n c] = some x) : OpRow w a n := by
  rcases Go.Deep.open_slice Tryz.underlying22 h with ⟨hcs, _⟩ | ⟨ad, len, cap, m, n', D, Pl, hcs, hb, hl, hm, hmm, hx, hall⟩
  · cases hcs
    exact ⟨by omega, fun i hi => by omega⟩
  · cases hcs
    unfold maxLen at hm
    simp only [cells33] at hall
    refine ⟨by omega, fun i hi => ?_⟩
    have him : i < m := by rw [hmm]; split <;> omega
    obtain ⟨cs, hc, ht⟩ := hall i him
    obtain ⟨xs, n2, _, _, hlen, hxl, hf⟩ := DataW.trod_struct Tryz.underlying33 ht
    have f0 := hf 0 _ rfl
    have f1 := hf 1 _ rfl
    have f2 := hf 2 _ rfl
    have f3 := hf 3 _ rfl
    have hxl : xs.length = 4 := hxl
    rw [List.getElem?_eq_getElem (by omega)] at f0 f1 f2 f3
    change DataW.trod enc Tryz.prog w 0 spare held n2 3 ((cs.drop 0).take (Tryz.prog.cellsOf 3)) = some _ at f0
    change DataW.trod enc Tryz.prog w 0 spare held n2 3 ((cs.drop 1).take (Tryz.prog.cellsOf 3)) = some _ at f1
    change DataW.trod enc Tryz.prog w 0 spare held n2 31 ((cs.drop 2).take (Tryz.prog.cellsOf 31)) = some _ at f2
    change DataW.trod enc Tryz.prog w 0 spare held n2 26 ((cs.drop 3).take (Tryz.prog.cellsOf 26)) = some _ at f3
    rw [cells3] at f0 f1
    rw [cells31] at f2
    rw [cells26] at f3
    obtain ⟨v0, e0, _, w0⟩ := DataW.trod_int Tryz.underlying3 f0
    obtain ⟨v1, e1, _, w1⟩ := DataW.trod_int Tryz.underlying3 f1
    obtain ⟨v2, e2, _, w2⟩ := DataW.trod_int Tryz.underlying31 f2
    obtain ⟨ys, n3, _, _, hlen3, hyl, hg⟩ := DataW.trod_struct Tryz.underlying26 f3
    have g0' := hg 0 _ rfl
    have g1' := hg 1 _ rfl
    have g2' := hg 2 _ rfl
    have hyl : ys.length = 3 := hyl
    rw [List.getElem?_eq_getElem (by omega)] at g0' g1' g2'
    change DataW.trod enc Tryz.prog w 0 spare held n3 3 ((((cs.drop 3).take 3).drop 0).take (Tryz.prog.cellsOf 3)) = some _ at g0'
    change DataW.trod enc Tryz.prog w 0 spare held n3 3 ((((cs.drop 3).take 3).drop 1).take (Tryz.prog.cellsOf 3)) = some _ at g1'
    change DataW.trod enc Tryz.prog w 0 spare held n3 3 ((((cs.drop 3).take 3).drop 2).take (Tryz.prog.cellsOf 3)) = some _ at g2'
    rw [cells3] at g0' g1' g2'
    obtain ⟨v3, e3, _, _⟩ := DataW.trod_int Tryz.underlying3 g0'
    obtain ⟨v4, e4, _, _⟩ := DataW.trod_int Tryz.underlying3 g1'
    obtain ⟨v5, e5, _, _⟩ := DataW.trod_int Tryz.underlying3 g2'
    have g0 := one_of e0
    have g1 := one_of e1
    have g2 := one_of e2
    have g3 := three_of (by omega) e3
    have g4 := three_of (by omega) e4
    have g5 := three_of (by omega) e5
    unfold World.cells? at hc
    split at hc
    · have hg : ∀ r, r < 6 → w.cell? ((ad.add (i * 6)).add r) = cs[r]? := fun r hr => mapM_some_get hc r r (by simp [hr])
      have k0 := (hg 0 (by omega)).trans g0
      have k1 := (hg 1 (by omega)).trans g1
      have k2 := (hg 2 (by omega)).trans g2
      have k3 := (hg 3 (by omega)).trans g3
      have k4 := (hg 4 (by omega)).trans g4
      have k5 := (hg 5 (by omega)).trans g5
      obtain ⟨cs0, hc0, _⟩ := hall 0 (by omega)
      unfold World.cells? at hc0
      split at hc0
      · have hl0 := mapM_some_length hc0
        have hg0 := mapM_some_get hc0 0 0 (by simp)
        simp only [List.length_range] at hl0
        rw [List.getElem?_eq_getElem (by omega)] at hg0
        have hsp := World.cell?_spot hg0
        obtain ⟨b, off, spot⟩ := ad
        have hspot : spot = none := by simpa [Addr.add] using hsp
        subst hspot
        simp only [Go.WideShapes.add_plain, Nat.add_zero] at k0 k1 k2 k3 k4 k5
        exact ⟨v0, v1, v2, v3, v4, v5, ⟨b, off, rfl, k0, k1, k2, k3, k4, k5⟩, bounds_i64 w0, bounds_i64 w1, bounds_u64 w2⟩
      · cases hc0
    · cases hc

/-- The timers and the reference side by side, both made by the call that began in w0; the blocks of Z are neither's. -/
def Duo (w0 w : World) (Z : Nat → Prop) (tb xb : Nat) (L1 : List Rec) (l1 : Int) (L2 : List Rec) (l2 : Int) : Prop :=
  ∃ S X : Nat → Prop, G.TI S w tb L1 l1 ∧ Rf X w xb L2 l2 ∧ (∀ k, S k → ¬ X k) ∧ (∀ k, S k → w0.heap.size ≤ k ∧ k < w.heap.size) ∧ (∀ k, X k → w0.heap.size ≤ k ∧ k < w.heap.size) ∧ (∀ k, Z k → k < w.heap.size ∧ ¬ S k ∧ ¬ X k) ∧ Fr (fun k => w0.heap.size ≤ k) w0 w

section
variable {w0 w w' : World} {Z : Nat → Prop} {tb xb : Nat} {L1 L2 : List Rec} {l1 l2 : Int}

theorem Duo.fr (h : Duo w0 w Z tb xb L1 l1 L2 l2) : Fr (fun k => w0.heap.size ≤ k) w0 w := by
  obtain ⟨S, X, _, _, _, _, _, _, h⟩ := h; exact h

theorem Duo.less {Z' : Nat → Prop} (h : Duo w0 w Z tb xb L1 l1 L2 l2) (hz : ∀ k, Z' k → Z k) : Duo w0 w Z' tb xb L1 l1 L2 l2 := by
  obtain ⟨S, X, h1, h2, h3, h4, h5, h6, h7⟩ := h
  exact ⟨S, X, h1, h2, h3, h4, h5, fun k hk => h6 k (hz k hk), h7⟩

theorem Duo.frNo (h : Duo w0 w Z tb xb L1 l1 L2 l2) (hf : Fr No w w') : Duo w0 w' Z tb xb L1 l1 L2 l2 := by
  obtain ⟨S, X, h1, h2, h3, h4, h5, h6, h7⟩ := h
  have hs := hf.size
  exact ⟨S, X, h1.frNo hf, h2.frNo hf, h3, fun k hk => ⟨(h4 k hk).1, Nat.lt_of_lt_of_le (h4 k hk).2 hs⟩, fun k hk => ⟨(h5 k hk).1, Nat.lt_of_lt_of_le (h5 k hk).2 hs⟩, fun k hk => ⟨Nat.lt_of_lt_of_le (h6 k hk).1 hs, (h6 k hk).2⟩, h7.trans hf.no⟩

/-- A new block is neither's. -/
theorem Duo.box (h : Duo w0 w Z tb xb L1 l1 L2 l2) (o : Obj) : Duo w0 (w.alloc o) (fun k => Z k ∨ k = w.heap.size) tb xb L1 l1 L2 l2 := by
  obtain ⟨S, X, h1, h2, h3, h4, h5, h6, h7⟩ := h
  have hs : (w.alloc o).heap.size = w.heap.size + 1 := by simp
  refine ⟨S, X, h1.frNo (Fr.alloc No w o), h2.frNo (Fr.alloc No w o), h3, fun k hk => ⟨(h4 k hk).1, by have := (h4 k hk).2; omega⟩, fun k hk => ⟨(h5 k hk).1, by have := (h5 k hk).2; omega⟩, ?_, h7.trans (Fr.alloc _ _ _)⟩
  rintro k (hk | rfl)
  · exact ⟨by have := (h6 k hk).1; omega, (h6 k hk).2⟩
  · exact ⟨by omega, fun hk => by have := (h4 _ hk).2; omega, fun hk => by have := (h5 _ hk).2; omega⟩

/-- A call on the timers. -/
theorem Duo.t (h : Duo w0 w Z tb xb L1 l1 L2 l2) : ∃ S, G.TI S w tb L1 l1 ∧ (∀ k, w.heap.size ≤ k → S k) ∧ ∀ (w' : World) (K : List Rec) (l : Int), G.TI S w' tb K l → Fr S w w' → Duo w0 w' Z tb xb K l L2 l2 ∧ ∀ k, Z k → w'.heap[k]? = w.heap[k]? := by
  obtain ⟨S, X, h1, h2, h3, h4, h5, h6, h7⟩ := h
  have hz := h7.size
  refine ⟨fun k => S k ∨ w.heap.size ≤ k, h1.mono fun k _ hk => .inl hk, fun k hk => .inr hk, fun w' K l hT hf => ?_⟩
  have hs := hf.size
  have hXn : ∀ k, X k → ¬ (S k ∨ w.heap.size ≤ k) := fun k hk h => by
    rcases h with h | h
    · exact h3 k h hk
    · have := (h5 k hk).2; omega
  have hZn : ∀ k, Z k → ¬ (S k ∨ w.heap.size ≤ k) := fun k hk h => by
    rcases h with h | h
    · exact (h6 k hk).2.1 h
    · have := (h6 k hk).1; omega
  refine ⟨⟨fun k => (S k ∨ w.heap.size ≤ k) ∧ k < w'.heap.size, X, hT.mono fun k hk h => ⟨h, hk⟩, h2.other hf hXn, fun k hk hx => hXn k hx hk.1, fun k hk => ⟨?_, hk.2⟩, fun k hk => ⟨(h5 k hk).1, Nat.lt_of_lt_of_le (h5 k hk).2 hs⟩, fun k hk => ⟨Nat.lt_of_lt_of_le (h6 k hk).1 hs, fun h => hZn k hk h.1, (h6 k hk).2.2⟩, h7.trans (hf.mono fun k _ hk => ?_)⟩, fun k hk => hf.block k (h6 k hk).1 (hZn k hk)⟩
  · rcases hk.1 with h | h
    · exact (h4 k h).1
    · omega
  · rcases hk with h | h
    · exact (h4 k h).1
    · omega

/-- A call on the reference. -/
theorem Duo.x (h : Duo w0 w Z tb xb L1 l1 L2 l2) : ∃ X, Rf X w xb L2 l2 ∧ (∀ k, w.heap.size ≤ k → X k) ∧ ∀ (w' : World) (K : List Rec) (l : Int), Rf X w' xb K l → Fr X w w' → Duo w0 w' Z tb xb L1 l1 K l ∧ ∀ k, Z k → w'.heap[k]? = w.heap[k]? := by
  obtain ⟨S, X, h1, h2, h3, h4, h5, h6, h7⟩ := h
  have hz := h7.size
  refine ⟨fun k => X k ∨ w.heap.size ≤ k, h2.mono fun k _ hk => .inl hk, fun k hk => .inr hk, fun w' K l hT hf => ?_⟩
  have hs := hf.size
  have hXn : ∀ k, S k → ¬ (X k ∨ w.heap.size ≤ k) := fun k hk h => by
    rcases h with h | h
    · exact h3 k hk h
    · have := (h4 k hk).2; omega
  have hZn : ∀ k, Z k → ¬ (X k ∨ w.heap.size ≤ k) := fun k hk h => by
    rcases h with h | h
    · exact (h6 k hk).2.2 h
    · have := (h6 k hk).1; omega
  refine ⟨⟨S, fun k => (X k ∨ w.heap.size ≤ k) ∧ k < w'.heap.size, h1.other hf hXn, hT.mono fun k hk h => ⟨h, hk⟩, fun k hk hx => hXn k hk hx.1, fun k hk => ⟨(h4 k hk).1, Nat.lt_of_lt_of_le (h4 k hk).2 hs⟩, fun k hk => ⟨?_, hk.2⟩, fun k hk => ⟨Nat.lt_of_lt_of_le (h6 k hk).1 hs, (h6 k hk).2.1, fun h => hZn k hk h.1⟩, h7.trans (hf.mono fun k _ hk => ?_)⟩, fun k hk => hf.block k (h6 k hk).1 (hZn k hk)⟩
  · rcases hk.1 with h | h
    · exact (h5 k h).1
    · omega
  · rcases hk with h | h
    · exact (h5 k h).1
    · omega

end

theorem ref_born (w : World) (X : Nat → Prop) (hX : X w.heap.size) : Rf X (w.alloc (.cells #[.slice none 0 0, .int .i64 0] 30)) w.heap.size [] 0 := by
  have hw : Wood [] 0 := ⟨List.Pairwise.nil, by simp, by simp, by simp, by simp⟩
  refine ⟨.slice none 0 0, ⟨heap_alloc_new w _, World.ownsRow_nil _ _ _ _, hw.shrub, by simp, by omega⟩, hw, ?_⟩
  rintro k (rfl | h)
  · exact hX
  · simp [Value.ownBlock] at h

theorem duo_born {w0 w : World} {S : Nat → Prop} {tb : Nat} (h : G.TI S w tb [] 0) (hS : ∀ k, S k → w0.heap.size ≤ k) (hf : Fr No w0 w) : Duo w0 (w.alloc (.cells #[.slice none 0 0, .int .i64 0] 30)) (fun _ => False) tb w.heap.size [] 0 [] 0 := by
  have hs : (w.alloc (.cells #[.slice none 0 0, .int .i64 0] 30)).heap.size = w.heap.size + 1 := by simp
  have hz := hf.size
  refine ⟨fun k => S k ∧ k < w.heap.size, fun k => k = w.heap.size, (h.mono fun k hk hs => ⟨hs, hk⟩).frNo (Fr.alloc No _ _), ref_born w _ rfl, fun k hk e => by omega, fun k hk => ⟨hS k hk.1, by omega⟩, fun k hk => by omega, fun k hk => hk.elim, hf.no.trans (Fr.alloc _ _ _)⟩

end Go.Proofs.YtbgddldkpjeieaaGreat
