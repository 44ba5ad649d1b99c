/-
  How a list of operations that came in lies in memory; the arena and the reference side by side; no walk of its own.
  Conditions: as each theorem says.
-/
import Derived.Test.YtgelgnakhghpkaaRef2
import Derived.Test.YtgelgnakhghpkaaRef3
import Derived.Deep.Slices
namespace Go.Proofs.Ytgelgnakhghpkaa
open Go.ChangeShapes Go.WideShapes Go.ChangeAt Go.RowKit
set_option linter.unusedVariables false

def OpAt (w : World) (a : Option Addr) (i : Nat) (k o d x : Int) : Prop := ∃ b off, a = some ⟨b, off, none⟩ ∧ w.cell? ⟨b, off + i * 4, none⟩ = some (.int .i64 k) ∧ w.cell? ⟨b, off + i * 4 + 1, none⟩ = some (.int .i64 o) ∧ w.cell? ⟨b, off + i * 4 + 2, none⟩ = some (.int .i64 d) ∧ w.cell? ⟨b, off + i * 4 + 3, none⟩ = some (.int .i64 x)

def OpRow (w : World) (a : Option Addr) (n : Nat) : Prop := n ≤ 9223372036854775807 ∧ ∀ i, i < n → ∃ k o d x : Int, OpAt w a i k o d x ∧ (-9223372036854775808 ≤ k ∧ k ≤ 9223372036854775807) ∧ (-9223372036854775808 ≤ o ∧ o ≤ 9223372036854775807) ∧ (-9223372036854775808 ≤ d ∧ d ≤ 9223372036854775807)

theorem OpAt.fr {S : Nat → Prop} {w w' : World} {a : Option Addr} {i : Nat} {k o d x : Int} (h : OpAt w a i k o d x) (hf : Fr S w w') (hS : ∀ j, S j → w.heap.size ≤ j) : OpAt w' a i k o d x := by
  obtain ⟨b, off, rfl, h0, h1, h2, h3⟩ := h
  have hb : b < w.heap.size := block_lt_of_cell h0
  have hk := hf.block b hb (fun hs => Nat.not_lt.2 (hS b hs) hb)
  exact ⟨b, off, rfl, (World.cell?_of_block (a := ⟨b, off + i * 4, none⟩) hk).trans h0, (World.cell?_of_block (a := ⟨b, off + i * 4 + 1, none⟩) hk).trans h1, (World.cell?_of_block (a := ⟨b, off + i * 4 + 2, none⟩) hk).trans h2, (World.cell?_of_block (a := ⟨b, off + i * 4 + 3, none⟩) hk).trans h3⟩

theorem cells40 : Try.prog.cellsOf 40 = 4 := by kernel_rfl
theorem cells3 : Try.prog.cellsOf 3 = 1 := by kernel_rfl
theorem cells38 : Try.prog.cellsOf 38 = 2 := by kernel_rfl

theorem one_of {cs : List Value} {r : Nat} {v : Value} (h : (cs.drop r).take 1 = [v]) : cs[r]? = some v := by
  have h1 : ((cs.drop r).take 1)[0]? = some v := by rw [h]; rfl
  rw [List.getElem?_take, if_pos (by omega), List.getElem?_drop] at h1
  simpa using h1

theorem two_of {cs : List Value} {r j : Nat} {v : Value} (hj : j < 2) (h : (((cs.drop r).take 2).drop j).take 1 = [v]) : cs[r + j]? = some v := by
  have h1 := one_of h
  rw [List.getElem?_take, if_pos hj, List.getElem?_drop] at h1
  exact h1

theorem ops_open {H : Type} {enc : TypeId × Value → H} {w : World} {spare : Nat → Bool} {held : Bool} {fuel : Nat} {a : Option Addr} {n c : Nat} {x : DataW H × List MemPlace} (h : DataW.trod enc Try.prog w 0 spare held fuel 31 [.slice a n c] = some x) : OpRow w a n := by
  rcases Go.Deep.open_slice Try.underlying31 h with ⟨hcs, _⟩ | ⟨ad, len, cap, m, n', D, Pl, hcs, hb, hl, hm, hmm, hx, hall⟩
  · cases hcs
    exact ⟨by omega, fun i hi => by omega⟩
  · cases hcs
    unfold maxLen at hm
    simp only [cells40] at hall
    refine ⟨by omega, fun i hi => ?_⟩
    have him : i < m := by rw [hmm]; split <;> omega
    obtain ⟨cs, hc, ht⟩ := hall i him
    obtain ⟨xs, n2, _, _, hlen, hxl, hf⟩ := DataW.trod_struct Try.underlying40 ht
    have f0 := hf 0 _ rfl
    have f1 := hf 1 _ rfl
    have f2 := hf 2 _ rfl
    have hxl : xs.length = 3 := hxl
    rw [List.getElem?_eq_getElem (by omega)] at f0 f1 f2
    change DataW.trod enc Try.prog w 0 spare held n2 3 ((cs.drop 0).take (Try.prog.cellsOf 3)) = some _ at f0
    change DataW.trod enc Try.prog w 0 spare held n2 38 ((cs.drop 1).take (Try.prog.cellsOf 38)) = some _ at f1
    change DataW.trod enc Try.prog w 0 spare held n2 3 ((cs.drop 3).take (Try.prog.cellsOf 3)) = some _ at f2
    rw [cells3] at f0 f2
    rw [cells38] at f1
    obtain ⟨v0, e0, _, w0⟩ := DataW.trod_int Try.underlying3 f0
    obtain ⟨v3, e3, _, w3⟩ := DataW.trod_int Try.underlying3 f2
    obtain ⟨ys, n3, _, _, hlen3, hyl, hg⟩ := DataW.trod_struct Try.underlying38 f1
    have g0' := hg 0 _ rfl
    have g1' := hg 1 _ rfl
    have hyl : ys.length = 2 := hyl
    rw [List.getElem?_eq_getElem (by omega)] at g0' g1'
    change DataW.trod enc Try.prog w 0 spare held n3 3 ((((cs.drop 1).take 2).drop 0).take (Try.prog.cellsOf 3)) = some _ at g0'
    change DataW.trod enc Try.prog w 0 spare held n3 3 ((((cs.drop 1).take 2).drop 1).take (Try.prog.cellsOf 3)) = some _ at g1'
    rw [cells3] at g0' g1'
    obtain ⟨v1, e1, _, w1⟩ := DataW.trod_int Try.underlying3 g0'
    obtain ⟨v2, e2, _, w2⟩ := DataW.trod_int Try.underlying3 g1'
    have g0 := one_of e0
    have g3 := one_of e3
    have g1 := two_of (by omega) e1
    have g2 := two_of (by omega) e2
    unfold World.cells? at hc
    split at hc
    · have hg : ∀ r, r < 4 → w.cell? ((ad.add (i * 4)).add r) = cs[r]? := fun r hr => mapM_some_get hc r r (by simp [hr])
      have k0 := (hg 0 (by omega)).trans g0
      have k1 := (hg 1 (by omega)).trans g1
      have k2 := (hg 2 (by omega)).trans g2
      have k3 := (hg 3 (by omega)).trans g3
      obtain ⟨cs0, hc0, _⟩ := hall 0 (by omega)
      unfold World.cells? at hc0
      split at hc0
      · have hl0 := mapM_some_length hc0
        have hg0 := mapM_some_get hc0 0 0 (by simp)
        simp only [List.length_range] at hl0
        rw [List.getElem?_eq_getElem (by omega)] at hg0
        have hsp := World.cell?_spot hg0
        obtain ⟨b, off, spot⟩ := ad
        have hspot : spot = none := by simpa [Addr.add] using hsp
        subst hspot
        simp only [Go.WideShapes.add_plain, Nat.add_zero] at k0 k1 k2 k3
        exact ⟨v0, v1, v2, v3, ⟨b, off, rfl, k0, k1, k2, k3⟩, bounds_i64 w0, bounds_i64 w1, bounds_i64 w2⟩
      · cases hc0
    · cases hc

/-- The arena and the reference side by side, both made by the call that began in w; the blocks of E are neither's. -/
structure Sd (w wr : World) (hb xb g k : Nat) (A : List Slot) (R : List RS) (B1 B2 : Int) (E : Nat → Prop) : Prop where
  uno : UI w wr (fun j => j = xb ∨ j = g ∨ E j) hb A k B1
  ref : RefAt wr xb g k R B2

section
variable {w wr w' : World} {hb xb g k : Nat} {A : List Slot} {R : List RS} {B1 B2 : Int} {E : Nat → Prop}

theorem Sd.frNo (h : Sd w wr hb xb g k A R B1 B2 E) (hf : Fr No wr w') : Sd w w' hb xb g k A R B1 B2 E := ⟨h.uno.frNo hf, h.ref.frNo hf⟩

theorem Sd.less {E' : Nat → Prop} (h : Sd w wr hb xb g k A R B1 B2 E) (hE : ∀ j, E' j → E j) : Sd w wr hb xb g k A R B1 B2 E' :=
  ⟨h.uno.less fun j hj => by rcases hj with h | h | h; exact .inl h; exact .inr (.inl h); exact .inr (.inr (hE j h)), h.ref⟩

theorem Sd.elt (h : Sd w wr hb xb g k A R B1 B2 E) {j : Nat} (hj : E j) : j < wr.heap.size := h.uno.zlt (.inr (.inr hj))

theorem Sd.box (h : Sd w wr hb xb g k A R B1 B2 E) (o : Obj) : Sd w (wr.alloc o) hb xb g k A R B1 B2 (fun j => E j ∨ j = wr.heap.size) := by
  refine ⟨(h.uno.box o).less fun j hj => ?_, h.ref.frNo (Fr.alloc No wr o)⟩
  rcases hj with h | h | h | h
  · exact .inl (.inl h)
  · exact .inl (.inr (.inl h))
  · exact .inl (.inr (.inr h))
  · exact .inr h

/-- A call on the arena. -/
theorem Sd.t (h : Sd w wr hb xb g k A R B1 B2 E) : ∃ S, I.AI S wr hb A k B1 ∧ (∀ j, wr.heap.size ≤ j → S j) ∧ ∀ (w' : World) (A' : List Slot) (B' : Int), I.AI S w' hb A' k B' → Fr S wr w' → Sd w w' hb xb g k A' R B' B2 E ∧ ∀ j, E j → w'.heap[j]? = wr.heap[j]? := by
  obtain ⟨S, h1, h2, h3⟩ := h.uno.t
  refine ⟨S, h1, h2, fun w' A' B' hA hf => ?_⟩
  obtain ⟨h4, h5⟩ := h3 w' A' B' hA hf
  exact ⟨⟨h4, h.ref.keep (h5 xb (.inl rfl)) (h5 g (.inr (.inl rfl)))⟩, fun j hj => h5 j (.inr (.inr hj))⟩

/-- A change of the reference. -/
theorem Sd.x (h : Sd w wr hb xb g k A R B1 B2 E) {R' : List RS} {B' : Int} (hr : RefAt w' xb g k R' B') (hf : Fr (fun j => j = g) wr w') : Sd w w' hb xb g k A R' B1 B' E :=
  ⟨h.uno.turn hf (fun j hj => .inr (.inl hj)) fun j hj => .inl hj, hr⟩

/-- A change of a block that is neither's. -/
theorem Sd.e (h : Sd w wr hb xb g k A R B1 B2 E) {b : Nat} (hb' : E b) (hf : Fr (fun j => j = b) wr w') (hx : b ≠ xb) (hg : b ≠ g) : Sd w w' hb xb g k A R B1 B2 E :=
  ⟨h.uno.turn hf (fun j hj => .inr (.inr (by rw [show j = b from hj]; exact hb'))) fun j hj => .inl hj, h.ref.keep (hf.block xb h.ref.xlt (fun e => hx e.symm)) (hf.block g h.ref.glt (fun e => hg e.symm))⟩

theorem Sd.apart (h : Sd w wr hb xb g k A R B1 B2 E) {b : Nat} {cs : Array Value} {t : TypeId} (hc : wr.heap[b]? = some (.cells cs t (0, 0))) (ht : t ≠ 36 ∧ t ≠ 45) : b ≠ xb ∧ b ≠ g := by
  refine ⟨fun e => ?_, fun e => ?_⟩
  · rw [e, h.ref.hdr] at hc; cases hc; exact ht.1 rfl
  · rw [e, h.ref.row] at hc; cases hc; exact ht.2 rfl
end

/-- The remainder is one number, whatever the world. -/
theorem mod_fix (v m : Int) (n : Nat) (hm : m = n) (h1 : 1 ≤ n) (h2 : n ≤ 1000) (hv : -9223372036854775808 ≤ v ∧ v ≤ 9223372036854775807) :
    ∃ r : Nat, r < n ∧ ∀ w : World, Calls Try.prog 12 #[.int .i64 v, .int .i64 m] w fun e w' => e = .returned (.int .i64 r) ∧ w' = w := by
  have g1 : 0 ≤ IntKind.u64.wrap v % (n : Int) := Int.emod_nonneg _ (by omega)
  have g2 : IntKind.u64.wrap v % (n : Int) < (n : Int) := Int.emod_lt_of_pos _ (by omega)
  refine ⟨(IntKind.u64.wrap v % (n : Int)).toNat, by omega, fun w => (mod_at v m n w hm h1 h2 hv).mono ?_⟩
  rintro e w' ⟨r, hr, hr2, rfl, rfl⟩
  have : r = (IntKind.u64.wrap v % (n : Int)).toNat := by omega
  rw [← this]
  exact ⟨rfl, rfl⟩

theorem Sd.up {w wr : World} {hb xb g k : Nat} {A : List Slot} {R : List RS} {B1 B2 B1' B2' : Int} {E : Nat → Prop} (h : Sd w wr hb xb g k A R B1 B2 E) (h1 : B1 ≤ B1') (h2 : B2 ≤ B2') : Sd w wr hb xb g k A R B1' B2' E := by
  obtain ⟨⟨S, hA, h3, h4, h5⟩, hr⟩ := h
  exact ⟨⟨S, ⟨hA.raw, { hA.good with gen := fun s hs => ⟨(hA.good.gen s hs).1, Int.le_trans (hA.good.gen s hs).2 h1⟩ }⟩, h3, h4, h5⟩, { hr with gen := fun s hs => ⟨(hr.gen s hs).1, Int.le_trans (hr.gen s hs).2 h2⟩ }⟩

theorem valid_any (xb g k : Nat) (R : List RS) (B ix gn : Int) (w : World) (h : RefAt w xb g k R B) :
    Calls Try.prog 13 #[.pointer (some ⟨xb, 0, none⟩), .agg #[.int .i64 ix, .int .i64 gn]] w fun e w' => ∃ b : Bool, e = .returned (.bool b) ∧ (b = true → ∃ i r, LiveR R ix gn i r) ∧ (b = false → ∀ i r, ¬ LiveR R ix gn i r) ∧ Fr No w w' := by
  by_cases hl : ∃ i r, LiveR R ix gn i r
  · obtain ⟨i, r, hl⟩ := hl
    refine (valid_hit xb g k R B ix gn i r w h hl).mono ?_
    rintro e w' ⟨rfl, hf⟩
    exact ⟨true, rfl, fun _ => ⟨i, r, hl⟩, (fun h => by cases h), hf⟩
  · have hl' : ∀ i r, ¬ LiveR R ix gn i r := fun i r h => hl ⟨i, r, h⟩
    refine (valid_miss xb g k R B ix gn w h hl').mono ?_
    rintro e w' ⟨rfl, hf⟩
    exact ⟨false, rfl, (fun h => by cases h), fun _ => hl', hf⟩

theorem handles_n (S : Nat → Prop) (hb : Nat) (A : List Slot) (size : Nat) (B : Int) (n : Nat) (L : List (Int × Int)) (w : World) (h : I.AI S w hb A size B) (hn : cnt A = n) (hL : hands 0 A = L) :
    Calls Try.prog 11 #[.pointer (some ⟨hb, 0, none⟩)] w fun e w' => ∃ a cp, e = .returned (.slice a n cp) ∧ HandsAt w' a n L ∧ Fr No w w' := by
  subst hn hL
  refine (I.handles_any S hb A size B w h).mono ?_
  rintro e w' ⟨a, cp, rfl, h1, h2⟩
  exact ⟨a, cp, rfl, HandsAt.row h1, h2⟩

theorem handles_ref_n (xb g k : Nat) (R : List RS) (B : Int) (n : Nat) (L : List (Int × Int)) (w : World) (h : RefAt w xb g k R B) (hL : handsR R = L) (hn : L.length = n) :
    Calls Try.prog 20 #[.pointer (some ⟨xb, 0, none⟩)] w fun e w' => ∃ a cp, e = .returned (.slice a n cp) ∧ HandsAt w' a n L ∧ Fr No w w' := by
  subst hn hL
  refine (handles_ref xb g k R B w h).mono ?_
  rintro e w' ⟨a, cp, rfl, h1, h2⟩
  exact ⟨a, cp, rfl, HandsAt.row h1, h2⟩

theorem len_n (S : Nat → Prop) (hb : Nat) (A : List Slot) (size : Nat) (B : Int) (n : Nat) (w : World) (h : I.AI S w hb A size B) (hn : cnt A = n) :
    Calls Try.prog 10 #[.pointer (some ⟨hb, 0, none⟩)] w fun e w' => e = .returned (.int .i64 (n : Nat)) ∧ w' = w := by
  subst hn
  exact I.len_any S hb A size B w h

theorem infoR : (Try.prog.info? 45).map (fun i => (i.zero, i.size, i.bytes)) = some (some (.agg #[.int .i64 0, .bool false, .int .i64 0]), 3, 24) := by kernel_rfl

theorem made_ref : ∀ k : Nat, k ≤ 8 → madeCells #[.int .i64 0, .bool false, .int .i64 0] (k * 3) = (flatR (List.replicate k ⟨0, false, 0⟩)).toArray := by
  intro k hk
  exact match k, hk with
  | 0, _ => by apply Array.ext'; simp [madeCells, flatR, encR, List.range, List.range.loop, List.replicate]
  | 1, _ => by apply Array.ext'; simp [madeCells, flatR, encR, List.range, List.range.loop, List.replicate]
  | 2, _ => by apply Array.ext'; simp [madeCells, flatR, encR, List.range, List.range.loop, List.replicate]
  | 3, _ => by apply Array.ext'; simp [madeCells, flatR, encR, List.range, List.range.loop, List.replicate]
  | 4, _ => by apply Array.ext'; simp [madeCells, flatR, encR, List.range, List.range.loop, List.replicate]
  | 5, _ => by apply Array.ext'; simp [madeCells, flatR, encR, List.range, List.range.loop, List.replicate]
  | 6, _ => by apply Array.ext'; simp [madeCells, flatR, encR, List.range, List.range.loop, List.replicate]
  | 7, _ => by apply Array.ext'; simp [madeCells, flatR, encR, List.range, List.range.loop, List.replicate]
  | 8, _ => by apply Array.ext'; simp [madeCells, flatR, encR, List.range, List.range.loop, List.replicate]

/-- The two, made. -/
theorem sd_born {w w1 : World} {S : Nat → Prop} {hb k : Nat} (h : I.AI S w1 hb [] k 0) (hS : ∀ j, S j → w.heap.size ≤ j) (hf : Fr No w w1) (hk : k ≤ 8) :
    Sd w ((w1.alloc (.cells (madeCells #[.int .i64 0, .bool false, .int .i64 0] (k * 3)) 45)).alloc (.cells #[.slice (some ⟨w1.heap.size, 0, none⟩) k k] 36)) hb (w1.heap.size + 1) w1.heap.size k [] (List.replicate k ⟨0, false, 0⟩) 0 0 (fun _ => False) := by
  have h0 : UI w w1 (fun _ => False) hb [] k 0 := (uno_born h hS hf (Fr.refl _ _)).less fun j hj => hj.elim
  refine ⟨((h0.box _).box _).less fun j hj => ?_, ?_⟩
  · rcases hj with rfl | rfl | hj
    · right; simp
    · left; right; rfl
    · exact hj.elim
  · refine ⟨heap_alloc2_new w1 _ _, ?_, by simp, by omega, fun s hs => ?_, hk⟩
    · rw [made_ref k hk]
      exact (Below.heap_alloc _ _ _ (by simp)).trans (heap_alloc_new w1 _)
    · have := List.eq_of_mem_replicate hs
      subst this
      simp only
      omega

end Go.Proofs.Ytgelgnakhghpkaa
