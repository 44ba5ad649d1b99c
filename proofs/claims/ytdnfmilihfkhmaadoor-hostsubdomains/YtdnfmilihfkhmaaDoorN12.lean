/-
  CONTRACT of package host's Format, over this seat's translation: what the call returns.
  Conditions: the address is one; the package variables are as Gl says.
-/
import Derived.Test.YtdnfmilihfkhmaaDoorN11
namespace Go.Proofs.YtdnfmilihfkhmaaDoor
open Go.ChangeShapes Go.WideShapes Go.ChangeAt Go.RowKit
set_option linter.unusedVariables false

/-- The notation of a target. -/
def fT (nl : List UInt8) (b : Bool) (xs : List Nat) (p : Int) : List UInt8 := if vT nl b xs p then fhV nl b xs ++ 58 :: oct8 (decN p.toNat) else []

theorem itoa_big (x : Nat) (hx : x < 4294967296) (w : World) (hG : Gl w) : Calls Tryd.prog 64 #[.int .i64 x] w fun e w' => e = .returned (.string (str (decN x))) ∧ Fr No w w' := by
  refine (Tryd.strconv_Itoa (x : Int) (by omega) (by omega) w hG.tab).mono ?_
  rintro e w' ⟨rfl, k, os, rfl⟩
  refine ⟨?_, ?_⟩
  · rw [Lib.itoa, if_neg (by omega), show ((x : Nat) : Int).toNat = x by omega, decN_digits]; rfl
  · exact (Fr.drewN No w k).trans ⟨rfl, rfl, rfl, by simp [Go.Sort.grow], fun j hj _ => by
      have hj' : j < w.heap.size := hj
      simp [Go.Sort.grow, Array.getElem?_append]
      omega⟩
theorem decN_len (n : Nat) : (decN n).length ≤ n + 1 := by
  induction n using Nat.strongRecOn with
  | ind n ih =>
    by_cases h : n < 10
    · rw [decN_small h]; simp
    · have := ih (n / 10) (by omega)
      rw [decN_big (by omega), List.length_append]; simp; omega
theorem nameV_len {l : List UInt8} (h : nameV l = true) : l.length ≤ 253 := by
  unfold nameV at h
  simp at h
  exact h.1.1
theorem vT_parts {nl : List UInt8} {b : Bool} {xs : List Nat} {p : Int} (h : vT nl b xs p = true) (hx : Bytes xs) : 1 ≤ p ∧ p ≤ 65535 ∧ (fhV nl b xs).length ≤ 253 := by
  unfold vT at h
  simp only [Bool.and_eq_true, decide_eq_true_eq] at h
  refine ⟨h.1.1, h.1.2, ?_⟩
  have hf := fmtA_length (b := b) hx
  unfold fhV
  by_cases hn : nl = []
  · rw [if_pos hn]
    split
    · simp [oct8_length]; omega
    · rw [oct8_length]; omega
  · rw [if_neg hn]
    have h2 := h.2
    rw [if_neg hn, Bool.and_eq_true] at h2
    exact nameV_len h2.1

set_option maxHeartbeats 8000000 in
set_option maxRecDepth 100000 in
theorem format_t (nl : List UInt8) (b : Bool) (xs : List Nat) (p : Int) (hx : Bytes xs) (w : World) (hG : Gl w) :
    Calls Tryd.prog 54 #[.agg (tgt (bs nl) b xs p).toArray] w fun e w' => e = .returned (.string (bs (fT nl b xs p))) ∧ Fr No w w' := by
  have HV0 : Hid (∀ w', Calls Tryd.prog 55 #[.agg (tgt (bs nl) b xs p).toArray] w' fun e w'' => e = .returned (.bool (vT nl b xs p)) ∧ Fr No w' w'') := fun w' => valid_t nl b xs p hx w'
  have HF0 : Hid (∀ w', Gl w' → Calls Tryd.prog 79 #[.agg (tgt (bs nl) b xs p).toArray] w' fun e w'' => e = .returned (.string (bs (fhV nl b xs))) ∧ Fr No w' w'') := fun w' h => fhost_any nl b xs p hx w' h
  obtain ⟨T, hT, -, -, h18, hs19, -, hT1⟩ := tgt_letter (bs nl) b xs p hx
  rw [hT] at HV0 HF0 ⊢
  clear hT
  have hb1 := heap_alloc_new w (.cells T 62)
  have hl1 : Sem.run Tryd.prog (loadCellsFrom ⟨w.heap.size, 0, none⟩ 0 19 #[]) (w.alloc (.cells T 62)) = .ok T (w.alloc (.cells T 62)) := load_block hb1 hs19 (fun j v hv => by simpa using hv)
  have hF := Fr.alloc No w (.cells T 62)
  have HB := Lib.hid (And.intro hb1 (And.intro h18 (And.intro hF (And.intro hs19 hG))))
  clear hb1 h18 hT1 hF hG
  cases hv : vT nl b xs p with
  | false =>
    have HV : Hid (fT nl b xs p = []) := by show _ = _; rw [fT, if_neg (by rw [hv]; simp)]
    rw [hv] at HV0
    clear hv HF0
    go_enter Tryd.func54, Tryd.ntmps54
    have t3 := Tryd.underlying3
    have u3 := Tryd.runUnderlying3
    have g3 := Tryd.isAgg3
    have z3 := Tryd.sizeOf3
    have t9 := Tryd.underlying9
    have u9 := Tryd.runUnderlying9
    have g9 := Tryd.isAgg9
    have z9 := Tryd.sizeOf9
    have t62 := Tryd.underlying62
    have u62 := Tryd.runUnderlying62
    have g62 := Tryd.isAgg62
    have z62 := Tryd.sizeOf62
    have c55 := Tryd.call55
    have c79 := Tryd.call79
    have c64 := Tryd.call64
    have mixed : Tryd.prog.follows .mixedOrders = true := by kernel_rfl
    obtain ⟨k62, hk62⟩ : ∃ k, k = 19 := ⟨_, rfl⟩
    rw [← hk62] at z62
    have nk62 : ¬ k62 = 0 := by omega
    have HK62 := Lib.hid hk62
    have hP : Tryd.prog = PD := rfl
    rw [hP] at t3 u3 g3 z3 t9 u9 g9 z9 t62 u62 g62 z62 c55 c79 c64 mixed ⊢
    have HP := Lib.hid hP.symm
    clear hP hk62
    have hTk : T.size = k62 := by rw [HK62.out]; exact hs19
    have hld : Sem.run PD (loadCellsFrom ⟨w.heap.size, 0, none⟩ 0 k62 #[]) (w.alloc (.cells T 62)) = .ok T (w.alloc (.cells T 62)) := by rw [HK62.out]; exact hl1
    clear hl1 hs19
    go_wp2_with (first | (go_at_call 55; refine (at_prog HP.out (HV0.out _)).mono ?_; rintro e w3 ⟨rfl, hf3⟩) | fail)
    go_ret
    exact ⟨by rw [HV.out]; rfl, HB.out.2.2.1.trans hf3⟩
  | true =>
    obtain ⟨hp1, hp2, hlen⟩ := vT_parts hv hx
    have HV : Hid (fT nl b xs p = fhV nl b xs ++ 58 :: oct8 (decN p.toNat)) := by show _ = _; rw [fT, if_pos hv]
    have HIT : Hid (∀ w', Gl w' → Calls Tryd.prog 64 #[.int .i64 p] w' fun e w'' => e = .returned (.string (bs (oct8 (decN p.toNat)))) ∧ Fr No w' w'') := fun w' h => by
      have h1 := itoa_big p.toNat (by omega) w' h
      rw [show ((p.toNat : Nat) : Int) = p by omega] at h1
      exact h1
    have hz1 : (bs (fhV nl b xs)).size ≤ 253 := by rw [bs_size]; exact hlen
    have hz2 : (bs (fhV nl b xs ++ [58])).size ≤ 254 := by rw [bs_size, List.length_append]; simp; omega
    have hz3 : (bs (oct8 (decN p.toNat))).size ≤ 70000 := by rw [bs_size, oct8_length]; have := decN_len p.toNat; omega
    have hap1 : bs (fhV nl b xs) ++ (⟨#[58]⟩ : ByteArray) = bs (fhV nl b xs ++ [58]) := bs_app _ [58]
    have hap2 : bs (fhV nl b xs ++ [58]) ++ bs (oct8 (decN p.toNat)) = bs (fT nl b xs p) := by rw [bs_app, HV.out]; simp
    rw [hv] at HV0
    generalize bs (fT nl b xs p) = R at hap2 ⊢
    generalize bs (fhV nl b xs ++ [58]) = f2 at hap1 hap2 hz2
    generalize bs (fhV nl b xs) = f1 at hap1 HF0 hz1
    generalize bs (oct8 (decN p.toNat)) = f3 at hap2 HIT hz3
    have g1 : ¬ 9223372036854775807 < f1.size + 1 := by omega
    have g2 : ¬ 9223372036854775807 < f2.size + f3.size := by omega
    have g3 : ¬ 9223372036854775807 < f1.size + 1 + f3.size := by omega
    clear hz1 hz2 hz3
    clear hv HV hlen
    go_enter Tryd.func54, Tryd.ntmps54
    have t3 := Tryd.underlying3
    have u3 := Tryd.runUnderlying3
    have g3 := Tryd.isAgg3
    have z3 := Tryd.sizeOf3
    have t9 := Tryd.underlying9
    have u9 := Tryd.runUnderlying9
    have g9 := Tryd.isAgg9
    have z9 := Tryd.sizeOf9
    have t62 := Tryd.underlying62
    have u62 := Tryd.runUnderlying62
    have g62 := Tryd.isAgg62
    have z62 := Tryd.sizeOf62
    have c55 := Tryd.call55
    have c79 := Tryd.call79
    have c64 := Tryd.call64
    have mixed : Tryd.prog.follows .mixedOrders = true := by kernel_rfl
    obtain ⟨k62, hk62⟩ : ∃ k, k = 19 := ⟨_, rfl⟩
    rw [← hk62] at z62
    have nk62 : ¬ k62 = 0 := by omega
    have HK62 := Lib.hid hk62
    have hP : Tryd.prog = PD := rfl
    rw [hP] at t3 u3 g3 z3 t9 u9 g9 z9 t62 u62 g62 z62 c55 c79 c64 mixed ⊢
    have HP := Lib.hid hP.symm
    clear hP hk62
    have hTk : T.size = k62 := by rw [HK62.out]; exact hs19
    have hld : Sem.run PD (loadCellsFrom ⟨w.heap.size, 0, none⟩ 0 k62 #[]) (w.alloc (.cells T 62)) = .ok T (w.alloc (.cells T 62)) := by rw [HK62.out]; exact hl1
    clear hl1 hs19
    go_wp2_with (first | (go_at_call 55; refine (at_prog HP.out (HV0.out _)).mono ?_; rintro e w3 ⟨rfl, hf3⟩) | fail)
    have F3 := Lib.hid (HB.out.2.2.1.trans hf3)
    have HLD : Hid (∀ w', Fr No w3 w' → Sem.run PD (loadCellsFrom ⟨w.heap.size, 0, none⟩ 0 k62 #[]) w' = .ok T w' ∧ w'.cell? ⟨w.heap.size, 18, none⟩ = some (.int .i64 p)) := fun w' hf => by
      have hb := (hf3.trans hf).keep HB.out.1
      exact ⟨load_block hb hTk (fun j v hv => by simpa using hv), by rw [cell_of_row _ _ _ _ _ _ hb]; exact HB.out.2.1⟩
    clear hf3 hld
    generalize w.heap.size = nb at HLD ⊢
    have f5 : Fr No w3 w3.drew := Fr.drew No _
    have m := (HLD.out _ f5).1
    have mm := (HLD.out _ f5).2
    have HG := Lib.hid HB.out.2.2.2.2
    go_region_held3 (fun w' => Sem.run PD (loadCellsFrom ⟨nb, 0, none⟩ 0 k62 #[]) w' = .ok T w' ∧ w'.cell? ⟨nb, 18, none⟩ = some (.int .i64 p)) (constructor <;> assumption) (first | (go_at_call 79; with_reducible refine (at_prog HP.out (HF0.out w3.drew (HG.out.fr (F3.out.trans f5)))).mono ?_; rintro e x0 ⟨rfl, h0⟩; have g0 := f5.trans h0; have m0 := (HLD.out _ g0).1; have n0 := (HLD.out _ g0).2; clear h0) | (go_at_call 64; with_reducible refine (at_prog HP.out (HIT.out w3.drew (HG.out.fr (F3.out.trans f5)))).mono ?_; rintro e x1 ⟨rfl, h1⟩; have g1 := f5.trans h1; have m1 := (HLD.out _ g1).1; have n1 := (HLD.out _ g1).2; clear h1) | (go_at_call 64; with_reducible refine (at_prog HP.out (HIT.out x0 (HG.out.fr (F3.out.trans g0)))).mono ?_; rintro e x2 ⟨rfl, h2⟩; have g2 := g0.trans h2; have m2 := (HLD.out _ g2).1; have n2 := (HLD.out _ g2).2; clear h2) | (go_at_call 79; with_reducible refine (at_prog HP.out (HF0.out x1 (HG.out.fr (F3.out.trans g1)))).mono ?_; rintro e x2 ⟨rfl, h2⟩; have g2 := g1.trans h2; have m2 := (HLD.out _ g2).1; have n2 := (HLD.out _ g2).2; clear h2))
    all_goals (
      go_wp2_with fail
      go_ret
      exact ⟨rfl, F3.out.trans g2⟩)
end Go.Proofs.YtdnfmilihfkhmaaDoor
