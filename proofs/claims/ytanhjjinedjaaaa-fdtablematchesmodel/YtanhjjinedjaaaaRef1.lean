/-
  How the reference table lies in memory; CONTRACT of its Find, over this seat's translation.
  Conditions: the reference table lies in memory as RefAt says.
-/
import Derived.Test.YtanhjjinedjaaaaDuo
import Derived.Test.YtanhjjinedjaaaaRv
namespace Go.Proofs.Ytanhjjinedjaaaa
open Go.ChangeShapes Go.WideShapes Go.ChangeAt Go.RowKit
set_option linter.unusedVariables false

structure RefRaw (w : World) (rb : Nat) (sv : Value) (M : List D) (k tot : Nat) : Prop where
  hdr : w.heap[rb]? = some (.cells #[.int .i64 k, sv, .int .i64 tot] 36 (0, 0))
  row : Row 47 w sv M
  apart : sv.ownBlock ≠ some rb

section
variable {w w' : World} {rb : Nat} {sv : Value} {M : List D} {k tot : Nat}

theorem RefRaw.lt (h : RefRaw w rb sv M k tot) : rb < w.heap.size := (Array.getElem?_eq_some_iff.1 h.hdr).1
theorem RefRaw.own_lt (h : RefRaw w rb sv M k tot) {j : Nat} (hj : Own rb sv j) : j < w.heap.size := by
  rcases hj with rfl | hj
  · exact h.lt
  · exact h.row.lt hj
theorem RefRaw.keep (h : RefRaw w rb sv M k tot) (hw : ∀ j, Own rb sv j → w'.heap[j]? = w.heap[j]?) : RefRaw w' rb sv M k tot :=
  ⟨(hw rb (.inl rfl)).trans h.hdr, h.row.keep (fun j hj => hw j (.inr hj)), h.apart⟩
theorem RefRaw.fr {S : Nat → Prop} (h : RefRaw w rb sv M k tot) (hf : Fr S w w') (hS : ∀ j, Own rb sv j → ¬ S j) : RefRaw w' rb sv M k tot :=
  h.keep fun j hj => hf.block j (h.own_lt hj) (hS j hj)
theorem RefRaw.frNo (h : RefRaw w rb sv M k tot) (hf : Fr No w w') : RefRaw w' rb sv M k tot := h.fr hf fun _ _ h => h
theorem RefRaw.hcell (h : RefRaw w rb sv M k tot) : w.cell? ⟨rb, 0, none⟩ = some (.int .i64 k) ∧ w.cell? ⟨rb, 1, none⟩ = some sv ∧ w.cell? ⟨rb, 2, none⟩ = some (.int .i64 tot) := by
  refine ⟨?_, ?_, ?_⟩ <;> rw [cell_of_row w rb _ _ _ _ h.hdr] <;> rfl
theorem RefRaw.hfrozen (h : RefRaw w rb sv M k tot) (j : Nat) : w.frozen? ⟨rb, j, none⟩ = false := frozen_of_row w rb j _ _ h.hdr
theorem RefRaw.setTotal (h : RefRaw w rb sv M k tot) (t : Nat) : RefRaw (w.setCell ⟨rb, 2, none⟩ (.int .i64 t)) rb sv M k t :=
  ⟨by rw [heap_setCell_same w rb 2 _ _ _ h.hdr]; rfl, h.row.keep fun j hj => heap_setCell_other _ _ _ _ (fun e => h.apart (by rw [hj]; simp [e])), h.apart⟩
theorem RefRaw.setRow {sv' : Value} {M' : List D} (h : RefRaw w rb sv M k tot) (hf : Fr (fun j => sv.ownBlock = some j) w w') (hrow : Row 47 w' sv' M') (hat : ∀ j, sv'.ownBlock = some j → sv.ownBlock = some j ∨ w.heap.size ≤ j) :
    RefRaw (w'.setCell ⟨rb, 1, none⟩ sv') rb sv' M' k tot := by
  have hne : sv'.ownBlock ≠ some rb := fun e => by
    rcases hat rb e with h1 | h1
    · exact h.apart h1
    · have := h.lt; omega
  refine ⟨by rw [heap_setCell_same w' rb 1 _ _ _ ((hf.block rb h.lt h.apart).trans h.hdr)]; rfl, hrow.keep fun j hj => heap_setCell_other _ _ _ _ (fun e => hne (by rw [hj]; simp [e])), hne⟩
end

structure RefAt (S : Nat → Prop) (w : World) (rb : Nat) (M : List D) (k tot : Nat) : Prop where
  raw : ∃ sv, RefRaw w rb sv M k tot ∧ ∀ j, Own rb sv j → S j
  len : M.length ≤ 256
  small : k ≤ 256

section
variable {S T : Nat → Prop} {w w' : World} {rb : Nat} {M : List D} {k tot : Nat}
theorem RefAt.fr (h : RefAt S w rb M k tot) (hf : Fr T w w') (hT : ∀ j, S j → ¬ T j) : RefAt S w' rb M k tot := by
  obtain ⟨⟨sv, hr, hs⟩, h1, h2⟩ := h
  exact ⟨⟨sv, hr.fr hf (fun j hj => hT j (hs j hj)), hs⟩, h1, h2⟩
theorem RefAt.frNo (h : RefAt S w rb M k tot) (hf : Fr No w w') : RefAt S w' rb M k tot := h.fr hf fun _ _ h => h
theorem RefAt.mono (h : RefAt S w rb M k tot) (hT : ∀ j, j < w.heap.size → S j → T j) : RefAt T w rb M k tot := by
  obtain ⟨⟨sv, hr, hs⟩, h1, h2⟩ := h
  exact ⟨⟨sv, hr, fun j hj => hT j (hr.own_lt hj) (hs j hj)⟩, h1, h2⟩
end

def Ref (rb : Nat) (M : List D) (k tot : Nat) : (Nat → Prop) → World → Prop := fun S w => RefAt S w rb M k tot
theorem ref_mov (rb : Nat) (M : List D) (k tot : Nat) : Mov (Ref rb M k tot) := ⟨fun S T w w' h hf hT => RefAt.fr h hf hT, fun S T w h hT => RefAt.mono h hT⟩

/-- Where the entry with a key is. -/
def Fnd (M : List D) (x : Int × Int) (v : Int) : Prop := ((∀ d ∈ M, d.key ≠ x) ∧ v = -1) ∨ ∃ (i : Nat) (d : D), v = i ∧ M[i]? = some d ∧ d.key = x

set_option maxHeartbeats 1000000 in
set_option maxRecDepth 100000 in
theorem find_any (rb : Nat) (sv : Value) (M : List D) (k tot : Nat) (xc xa : Int) (w : World) (h : RefRaw w rb sv M k tot) (hn : M.length ≤ 256) :
    Calls Try.prog 21 #[.pointer (some ⟨rb, 0, none⟩), .agg #[.int .i64 xc, .int .i64 xa]] w fun e w' => ∃ v, e = .returned (.int .i64 v) ∧ Fnd M (xc, xa) v ∧ Fr No w w' := by
  obtain ⟨a, cap, rfl, -, -⟩ := h.row.any
  obtain ⟨n, hn'⟩ : ∃ n, M.length = n := ⟨_, rfl⟩
  rw [hn'] at h hn
  have HS : Hid (RefRaw (w.alloc (.cells #[.int .i64 xc, .int .i64 xa] 38)) rb (.slice a n cap) M k tot ∧ M.length = n) := ⟨h.frNo (Fr.alloc No _ _), hn'⟩
  have HF : Hid (Fr No w (w.alloc (.cells #[.int .i64 xc, .int .i64 xa] 38))) := Fr.alloc No _ _
  have HX : Hid ((w.alloc (.cells #[.int .i64 xc, .int .i64 xa] 38)).heap[w.heap.size]? = some (.cells #[.int .i64 xc, .int .i64 xa] 38 (0, 0))) := heap_alloc_new w _
  clear h hn'
  go_enter Try.func21, Try.ntmps21
  go_wp2_with fail
  obtain ⟨xb, hxb⟩ : ∃ xb, w.heap.size = xb := ⟨_, rfl⟩
  rw [hxb] at HX ⊢
  clear hxb
  revert HX; revert HF; revert HS
  generalize w.alloc (.cells #[.int .i64 xc, .int .i64 xa] 38) = y
  intro HS HF HX
  go_loopg [5] (n + 1) (fun g s5 wr => ∃ i : Nat, s5 = .int .i64 i ∧ i ≤ n ∧ n - i < g ∧ Hid (Fr No y wr ∧ ∀ (j : Nat) (d : D), j < i → M[j]? = some d → d.key ≠ (xc, xa)))
  case atStart => exact ⟨0, by go_num, by omega, by omega, Fr.refl _ _, fun j d hj => by omega⟩
  case round =>
    obtain ⟨i, rfl, hin, hg, HR⟩ := hrel
    have hr := HS.out.1.frNo HR.out.1
    obtain ⟨-, c1, -⟩ := hr.hcell
    by_cases hi : i < n
    · obtain ⟨d, hd⟩ : ∃ d, M[i]? = some d := ⟨_, List.getElem?_eq_getElem (by have := HS.out.2; omega)⟩
      obtain ⟨gb, rfl, _⟩ := hr.row.form (by have := HS.out.2; omega)
      obtain ⟨d0, d1, -, -⟩ := hr.row.cells hd
      have hxz := (HR.out.1.block xb (Array.getElem?_eq_some_iff.1 HX.out).1 (fun h => h)).trans HX.out
      obtain ⟨x0, x1⟩ : wr.cell? ⟨xb, 0, none⟩ = some (.int .i64 xc) ∧ wr.cell? ⟨xb, 1, none⟩ = some (.int .i64 xa) := by
        refine ⟨?_, ?_⟩ <;> rw [cell_of_row _ _ _ _ _ _ hxz] <;> rfl
      have q1 : (0 : Int) ≤ (i : Int) := by omega
      have q2 : (i : Int) < (n : Int) := by omega
      have HD := Lib.hid hd
      obtain ⟨dc, da, dn, ds⟩ := d
      simp only at d0 d1
      clear hr hd hxz
      by_cases hc : dc = xc
      · subst hc
        by_cases ha : da = xa
        · subst ha
          go_wp2_with fail
          go_quiet (fail)
          go_wp2_with fail
          go_ret
          exact ⟨i, rfl, .inr ⟨i, _, rfl, HD.out, rfl⟩, (HF.out.trans HR.out.1).trans (Fr.drewN _ _ _)⟩
        · go_wp2_with fail
          go_quiet (fail)
          go_wp2_with fail
          go_roundg (n - i)
          case measure => exact hg
          case rel =>
            refine ⟨i + 1, by go_num, by omega, by omega, HR.out.1.trans (Fr.drewN _ _ _), fun j e hj he => ?_⟩
            by_cases hji : j = i
            · subst hji; rw [HD.out] at he; cases he
              exact fun h => ha (Prod.ext_iff.1 h).2
            · exact HR.out.2 j e (by omega) he
      · go_wp2_with fail
        go_quiet (fail)
        go_wp2_with fail
        go_roundg (n - i)
        case measure => exact hg
        case rel =>
          refine ⟨i + 1, by go_num, by omega, by omega, HR.out.1.trans (Fr.drewN _ _ _), fun j e hj he => ?_⟩
          by_cases hji : j = i
          · subst hji; rw [HD.out] at he; cases he
            exact fun h => hc (Prod.ext_iff.1 h).1
          · exact HR.out.2 j e (by omega) he
    · obtain rfl : i = n := by omega
      have q2 : ¬ ((i : Int) < (i : Int)) := by omega
      clear hr
      go_wp2_with fail
      go_ret
      refine ⟨-1, rfl, .inl ⟨fun d hd => ?_, rfl⟩, HF.out.trans HR.out.1⟩
      obtain ⟨j, hj⟩ := List.mem_iff_getElem?.1 hd
      exact HR.out.2 j d (by have := (List.getElem?_eq_some_iff.1 hj).1; have := HS.out.2; omega) hj

end Go.Proofs.Ytanhjjinedjaaaa
