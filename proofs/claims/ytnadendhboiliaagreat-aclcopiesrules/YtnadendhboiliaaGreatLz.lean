/-
  THE LAW AclCopiesRules: its walk.
  Conditions: the list lies in memory.
-/
import Derived.Test.YtnadendhboiliaaGreatLa
import Derived.Test.YtnadendhboiliaaGreatSp
namespace Go.Proofs.YtnadendhboiliaaGreat
open Go.ChangeShapes Go.WideShapes Go.ChangeAt Go.RowKit
set_option linter.unusedVariables false

def rZ : Ru := ⟨false, [122], zP, 0, 0⟩
theorem bz : Tryz.prog.built 31 [(1, .string ⟨#[122]⟩)] = some (ruC rZ).toArray := by kernel_rfl
theorem own_at {w : World} {base n cap : Nat} {g : Nat} {xs : List Value} (h : w.ownsRow base 31 22 (.slice (some ⟨g, 0, none⟩) n cap) n xs) : ∃ cur, w.heap[g]? = some (.cells cur 31 (0, 0)) ∧ n * 22 ≤ cur.size ∧ base ≤ g := by
  rcases h.2 with ⟨hv, h0⟩ | ⟨g', cap', cur, hv, hb, hg, h1, h2, h3, h4⟩
  · cases hv
  · cases hv
    exact ⟨cur, hg, by rw [h3]; exact Nat.mul_le_mul_right _ h1, hb⟩
theorem own_nil {w : World} {base n cap : Nat} {a : Option Addr} {xs : List Value} (h : w.ownsRow base 31 22 (.slice a n cap) n xs) : a = none → n = 0 ∧ cap = 0 := fun ha => by
  subst ha
  rcases h.2 with ⟨hv, h0⟩ | ⟨g', cap', cur, hv, -⟩
  · cases hv
    exact ⟨rfl, rfl⟩
  · cases hv
theorem RowR.below {w : World} {a : Option Addr} {L : List Ru} (h : RowR w a L) : ∀ ad, a = some ad → L ≠ [] → ad.block < w.heap.size := fun ad ha hne => by
  obtain ⟨b, o, cs, T, f, h1, h2, -⟩ := h.2 hne
  rw [ha] at h1
  cases h1
  exact some_lt h2

set_option maxHeartbeats 16000000 in
set_option maxRecDepth 100000 in
theorem copies_walk (a : Option Addr) (n cp : Nat) (b : Bool) (xs : List Nat) (port : Int) (w : World) (ha : InR w a n) (hx : Bytes xs) :
    Calls Tryz.prog 3 #[.slice a n cp, .agg (adr b xs).toArray, .int .i64 port] w fun e w' => e = .returned (.bool true) ∧ Fr No w w' := by
  obtain ⟨L0, hL0, hr0⟩ := ha.row
  have HRL : Hid (∀ w', Fr No w w' → Calls Tryz.prog 4 #[.slice a n cp, .int .i64 10, .bool true] w' (GenL 10 w')) := fun w' hf => rules_gen L0 n hL0 a cp w' (hr0.no hf) 10 (by decide) true
  clear hL0 hr0 ha
  obtain ⟨A, hA, -, hAs, -⟩ := adr_letter b xs hx
  obtain ⟨Z, hZ⟩ : ∃ Z : Array Value, (adr false zeros).toArray = Z := ⟨_, rfl⟩
  have v25 := zero25
  rw [hZ] at v25
  have hZs : Z.size = 17 := by rw [← hZ]; rfl
  have HSA : Hid (∀ w', Calls Tryz.prog 9 #[.agg A] w' (GenB w')) := fun w' => by rw [← hA]; exact saddr_gen b xs hx w'
  have HF0 : Hid (Fr No w (w.alloc (.cells A 25)) ∧ (w.alloc (.cells A 25)).heap[w.heap.size]? = some (.cells A 25 (0, 0))) := ⟨Fr.alloc No w _, heap_alloc_new w _⟩
  obtain ⟨fh, hfh, hfn⟩ := host_all
  have HHN : Hid (∀ w', Calls Tryz.prog 15 #[.int .i64 port] w' fun e w'' => e = .returned (.string (bs (fh port))) ∧ w'' = w') := fun w' => hfn port w'
  generalize fh port = hl at HHN
  obtain ⟨fp, hfp, hfq⟩ := port_all
  have HPN : Hid (∀ w', Calls Tryz.prog 10 #[.int .i64 port] w' fun e w'' => e = .returned (.int .i64 (fp port)) ∧ w'' = w') := fun w' => hfq port w'
  generalize fp port = pp at HPN
  have hrz : Bytes rZ.p.xs := zeros_bytes
  obtain ⟨RZ, hRZ⟩ : ∃ R, (ruC rZ).toArray = R := ⟨_, rfl⟩
  have D1 := Lib.hid bz
  rw [hRZ] at D1
  have HSP : Hid (∀ (w' : World) (L : List Ru) (ad : Option Addr) (m c base : Nat), L.length = m → m ≤ 12 → okL L → w'.ownsRow base 31 22 (.slice ad m c) m (flatR L) → Calls Tryz.prog 5 #[.slice ad m c, .agg RZ] w' fun e w'' => ∃ g c2, e = .returned (.slice (some ⟨g, 0, none⟩) m (m + 3)) ∧ w''.ownsRow w'.heap.size 31 22 (.slice (some ⟨g, 0, none⟩) (m + 3) c2) (m + 3) (flatR (L ++ [rZ, rZ, rZ])) ∧ Fr No w' w'') := fun w' L ad m c base h1 h2 h3 h4 => by
    rw [← hRZ]
    exact spare_any ad m (m + 3) c L rZ hrz w' (RowR.own h3 h4).1 h1 (own_nil h4) (by omega) rfl
  have HUN : Hid (∀ (w' : World) (L : List Ru) (g m c : Nat) (ad : Option Addr), RowR w' (some ⟨g, 0, none⟩) (L ++ [rZ, rZ, rZ]) → RowR w' ad L → L.length = m → m ≤ 12 → Calls Tryz.prog 7 #[.slice (some ⟨g, 0, none⟩) m (m + 3), .slice ad m c, .agg RZ] w' fun e w'' => e = .returned (.bool true) ∧ Fr No w' w'') := fun w' L g m c ad h1 h2 h3 h4 => by
    rw [← hRZ]
    exact unchanged_any g m (m + 3) c ad L rZ hrz w' h1 h2 h3 (by omega) rfl
  rw [hA]
  clear hA hx hZ hfh hfn hfp hfq hRZ hrz
  go_enter Tryz.func3, Tryz.ntmps3
  have t3 := Tryz.underlying3
  have u3 := Tryz.runUnderlying3
  have g3 := Tryz.isAgg3
  have z3 := Tryz.sizeOf3
  have t4 := Tryz.underlying4
  have u4 := Tryz.runUnderlying4
  have g4 := Tryz.isAgg4
  have z4 := Tryz.sizeOf4
  have t9 := Tryz.underlying9
  have u9 := Tryz.runUnderlying9
  have g9 := Tryz.isAgg9
  have z9 := Tryz.sizeOf9
  have t22 := Tryz.underlying22
  have u22 := Tryz.runUnderlying22
  have g22 := Tryz.isAgg22
  have z22 := Tryz.sizeOf22
  have t25 := Tryz.underlying25
  have u25 := Tryz.runUnderlying25
  have g25 := Tryz.isAgg25
  have z25 := Tryz.sizeOf25
  have t29 := Tryz.underlying29
  have u29 := Tryz.runUnderlying29
  have g29 := Tryz.isAgg29
  have z29 := Tryz.sizeOf29
  have t31 := Tryz.underlying31
  have u31 := Tryz.runUnderlying31
  have g31 := Tryz.isAgg31
  have z31 := Tryz.sizeOf31
  have t32 := Tryz.underlying32
  have u32 := Tryz.runUnderlying32
  have g32 := Tryz.isAgg32
  have z32 := Tryz.sizeOf32
  have t33 := Tryz.underlying33
  have u33 := Tryz.runUnderlying33
  have g33 := Tryz.isAgg33
  have z33 := Tryz.sizeOf33
  have c4 := Tryz.call4
  have c5 := Tryz.call5
  have c6 := Tryz.call6
  have c7 := Tryz.call7
  have c8 := Tryz.call8
  have c9 := Tryz.call9
  have c10 := Tryz.call10
  have c11 := Tryz.call11
  have c12 := Tryz.call12
  have c13 := Tryz.call13
  have c14 := Tryz.call14
  have c15 := Tryz.call15
  have c16 := Tryz.call16
  have mixed : Tryz.prog.follows .mixedOrders = true := by kernel_rfl
  obtain ⟨k17, hk17⟩ : ∃ k, k = 17 := ⟨_, rfl⟩
  rw [← hk17] at z25
  have nk17 : ¬ k17 = 0 := by omega
  have HK25 := Lib.hid hk17
  have hP : Tryz.prog = PD := rfl
  rw [hP] at t3 u3 g3 z3 t4 u4 g4 z4 t9 u9 g9 z9 t22 u22 g22 z22 t25 u25 g25 z25 t29 u29 g29 z29 t31 u31 g31 z31 t32 u32 g32 z32 t33 u33 g33 z33 c4 c5 c6 c7 c8 c9 c10 c11 c12 c13 c14 c15 c16 mixed v25 ⊢
  have HP := Lib.hid hP.symm
  clear hP hk17
  have hAk : A.size = k17 := by rw [HK25.out]; exact hAs
  have hZk : Z.size = k17 := by rw [HK25.out]; exact hZs
  have HZ := Lib.hid hZs
  clear hAs hZs
  go_upto_region 3 with (first | (go_at_call 4; ((with_reducible refine (at_prog HP.out (HRL.out _ HF0.out.1)).mono ?_); rintro e w1 ⟨L, m, ad, c, rfl, hLm, hm, hok, hv, ho, hf1⟩)) | (refine law_buildP HP.out rfl 31 #[(1, .const (.string ⟨#[122]⟩))] rfl _ rfl RZ D1.out ?_) | (go_at_call 5; ((with_reducible refine (at_prog HP.out (HSP.out _ _ _ _ _ _ hLm hm hok ho)).mono ?_); rintro e w2 ⟨g, c2, rfl, ho2, hf2⟩)) | fail)
  have hrow1 := (RowR.own hok ho).1
  have hokz : okL (L ++ [rZ, rZ, rZ]) := fun r hr => by
    rcases List.mem_append.1 hr with h | h
    · exact hok r h
    · have h2 : r = rZ := by simpa using h
      rw [h2]; exact zeros_bytes
  have hrow2 := (RowR.own hokz ho2).1
  have hF2 : Fr No (w.alloc (.cells A 25)) w2 := hf1.trans hf2
  obtain ⟨cur, hcur, hcs, hgb⟩ := own_at ho2
  have HW2 : Hid (Fr No w w2 ∧ w2.heap[w.heap.size]? = some (.cells A 25 (0, 0)) ∧ RowR w2 ad L ∧ RowR w2 (some ⟨g, 0, none⟩) (L ++ [rZ, rZ, rZ]) ∧ (∀ ad', ad = some ad' → L ≠ [] → ad'.block < g) ∧ w2.heap[g]? = some (.cells cur 31 (0, 0)) ∧ (m + 3) * 22 ≤ cur.size ∧ w.heap.size < g ∧ m ≤ 12 ∧ L.length = m ∧ vRs L = true) := by
    refine ⟨HF0.out.1.trans hF2, hF2.keep HF0.out.2, hrow1.no hf2, hrow2, fun ad' h1 h2 => ?_, hcur, hcs, ?_, hm, hLm, hv⟩
    · have := hrow1.below ad' h1 h2
      omega
    · have h1 := some_lt HF0.out.2
      have h2 := hf1.size
      omega
  have HNW : Hid (Calls Tryz.prog 6 #[.slice (some ⟨g, 0, none⟩) m (m + 3)] w2 fun e w'' => (∃ x, e = .returned (.tuple #[.pointer (some ⟨x, 0, none⟩), .int .i64 0]) ∧ Hid (∃ tb ra rc T X, Inc w2.heap.size w'' x L L.length tb ra rc T X)) ∧ Fr No w2 w'') := by
    refine (new_yes L m hLm hv _ (m + 3) w2 hrow2.left).mono ?_
    rintro e w'' ⟨⟨x, tb, ra, rc, T, X, he, hI⟩, hf⟩
    exact ⟨⟨x, he, tb, ra, rc, T, X, hI⟩, hf⟩
  clear hrow1 hokz hrow2 hF2 hcur hcs hgb ho ho2 hf1 hf2 hok hv hLm hm
  go_upto_region 4 with (first | (go_at_call 6; ((with_reducible refine (at_prog HP.out HNW.out).mono ?_); rintro e w3 ⟨⟨x, rfl, hI⟩, hf3⟩)) | fail)
  have H3 := Lib.hid hf3
  have HUN3 : Hid (Calls Tryz.prog 7 #[.slice (some ⟨g, 0, none⟩) m (m + 3), .slice ad m c, .agg RZ] w3 fun e w'' => e = .returned (.bool true) ∧ Fr No w3 w'') := HUN.out w3 L g m c ad (HW2.out.2.2.2.1.no hf3) (HW2.out.2.2.1.no hf3) HW2.out.2.2.2.2.2.2.2.2.2.1 HW2.out.2.2.2.2.2.2.2.2.1
  clear hf3
  go_upto_region 6 with (first | (refine law_build_onP HP.out (by rfl) 31 #[(1, .const (.string ⟨#[122]⟩))] rfl _ rfl RZ D1.out ?_) | (go_at_call 7; ((with_reducible refine (at_prog HP.out HUN3.out).mono ?_); rintro e w4 ⟨rfl, hf4⟩)) | fail)
  have H4 : Hid (Fr No w2 w4) := H3.out.trans hf4
  have HOW : Hid (Calls Tryz.prog 8 #[.slice (some ⟨g, 0, none⟩) m (m + 3)] w4 fun e w'' => e = .returned (.tuple #[]) ∧ Fr (fun k => k = g) w4 w'') := overwrite_any g m (m + 3) cur w4 (H4.out.keep HW2.out.2.2.2.2.2.1) (by have := HW2.out.2.2.2.2.2.2.1; omega) (by have := HW2.out.2.2.2.2.2.2.2.2.1; omega)
  have HI4 : Hid (∃ tb ra rc T X, Inc w2.heap.size w4 x L L.length tb ra rc T X) := by
    obtain ⟨tb, ra, rc, T, X, h⟩ := hI.out
    exact ⟨tb, ra, rc, T, X, h.no hf4⟩
  clear hf4 hI
  go_upto_region 7 with (first | (go_at_call 8; ((with_reducible refine (at_prog HP.out HOW.out).mono ?_); rintro e w5 ⟨rfl, hf5⟩)) | fail)
  have HI5 : Hid (∃ tb ra rc T X, Inc w2.heap.size w5 x L L.length tb ra rc T X) := by
    obtain ⟨tb, ra, rc, T, X, h⟩ := HI4.out
    exact ⟨tb, ra, rc, T, X, h.fr hf5 fun k hk => by rw [hk]; exact some_lt HW2.out.2.2.2.2.2.1⟩
  have HW5 : Hid (Fr No w w5 ∧ w5.heap[w.heap.size]? = some (.cells A 25 (0, 0)) ∧ RowR w5 ad L ∧ L.length = m ∧ m ≤ 12) := by
    refine ⟨(HW2.out.1.trans H4.out).ofNew hf5 fun k hk => .inr (by rw [hk]; exact Nat.le_of_lt HW2.out.2.2.2.2.2.2.2.1), ?_, (HW2.out.2.2.1.no H4.out).fr hf5 fun ad' h1 h2 hk => ?_, HW2.out.2.2.2.2.2.2.2.2.2.1, HW2.out.2.2.2.2.2.2.2.2.1⟩
    · have h1 := H4.out.keep HW2.out.2.1
      exact (hf5.block _ (some_lt h1) (fun hc => by have := HW2.out.2.2.2.2.2.2.2.1; omega)).trans h1
    · have h3 := HW2.out.2.2.2.2.1 ad' h1 h2
      omega
  have l0 : Sem.run PD (loadCellsFrom ⟨w.heap.size, 0, none⟩ 0 k17 #[]) w5 = .ok A w5 := load_block HW5.out.2.1 hAk (fun j v hv => by simpa using hv)
  clear hf5
  go_upto_region 8 with (first | (go_at_call 9; ((with_reducible refine (at_prog HP.out (HSA.out _)).mono ?_); rintro e w6 ⟨c', ys, hys, rfl, hf6⟩; obtain ⟨B, hB, -, hBs, -⟩ := adr_letter c' ys hys; rw [hB]; have hBk : B.size = k17 := hBs.trans HK25.out.symm; obtain ⟨y, hst, hyb, hyf⟩ := store_all (P := PD) B.toList (heap_alloc_new w6 (.cells Z 25)) (by rw [Array.length_toList, hBs, HZ.out]) (by rw [← hB]; exact fun u hu => adr_one _ _ u (by simpa using hu)))) | (go_at_call 10; ((with_reducible refine (at_prog HP.out (HPN.out _)).mono ?_); rintro e w7 ⟨rfl, hw7⟩; replace hw7 := hw7.symm; subst hw7)) | fail)
  obtain ⟨ub, hub⟩ : ∃ ub, w6.heap.size = ub := ⟨_, rfl⟩
  have hFy : Fr No w5 y := (hf6.trans (Fr.alloc No w6 _)).ofNew hyf fun k hk => .inr (by rw [hk]; exact hf6.size)
  rw [hub] at hyb ⊢
  have HY : Hid (Fr No w5 y ∧ y.heap[ub]? = some (.cells B 25 (0, 0))) := ⟨hFy, by simpa using hyb⟩
  have HS : Hid (∀ w', Fr No y w' → Fr No y w' ∧ Sem.run PD (loadCellsFrom ⟨ub, 0, none⟩ 0 k17 #[]) w' = .ok B w') := fun w' hf => ⟨hf, load_block (hf.keep HY.out.2) hBk (fun j v hv => by simpa using hv)⟩
  obtain ⟨s, hs⟩ : ∃ s, bs hl = s := ⟨_, rfl⟩
  obtain ⟨v1, hv1⟩ : ∃ v, alA L c' ys pp = v := ⟨_, rfl⟩
  obtain ⟨v2, hv2⟩ : ∃ v, alN L hl pp = v := ⟨_, rfl⟩
  have HC : Hid (∀ w', Fr No y w' → Calls Tryz.prog 12 #[.pointer (some ⟨x, 0, none⟩), .agg B, .int .i64 pp] w' (fun e w'' => e = .returned (.bool v1) ∧ Fr No w' w'') ∧ Calls Tryz.prog 13 #[.slice ad m c, .agg B, .int .i64 pp] w' (fun e w'' => e = .returned (.bool v1) ∧ Fr No w' w'') ∧ Calls Tryz.prog 14 #[.pointer (some ⟨x, 0, none⟩), .string s, .int .i64 pp] w' (fun e w'' => e = .returned (.bool v2) ∧ Fr No w' w'') ∧ Calls Tryz.prog 16 #[.slice ad m c, .string s, .int .i64 pp] w' (fun e w'' => e = .returned (.bool v2) ∧ Fr No w' w'')) := fun w' hf => by
    obtain ⟨tb, ra, rc, T, X, h⟩ := HI5.out
    have hI := h.no (HY.out.1.trans hf)
    have hr := HW5.out.2.2.1.no (HY.out.1.trans hf)
    have hl1 := HW5.out.2.2.2.1
    have hl2 := HW5.out.2.2.2.2
    rw [← hB, ← hs, ← hv1, ← hv2]
    exact ⟨allowa_any _ w' x L tb ra rc T X hI (by omega) c' ys hys pp, allowa_ref L m hl1 (by omega) ad c c' ys hys pp w' hr, allown_any _ w' x L tb ra rc T X hI (by omega) hl pp, allown_ref L m hl1 (by omega) ad c hl pp w' hr⟩
  rw [hs] at HHN
  have HF5 : Hid (Fr No w y) := HW5.out.1.trans HY.out.1
  clear hst hyb hyf hFy hf6 hub l0 hB hys hBs hBk hv1 hv2 hs hZk hAk
  have hS0 := HS.out _ (Fr.drew No y)
  have q1 : (v1 == v1) = true := by simp
  have q2 : (v2 == v2) = true := by simp
  go_region_held3 (fun w' => Fr No y w' ∧ Sem.run PD (loadCellsFrom ⟨ub, 0, none⟩ 0 k17 #[]) w' = .ok B w') (first | assumption | (with_reducible exact HS.out _ (by assumption))) (first | (go_at_call 11; ((with_reducible refine (at_prog HP.out (awake_any _)).mono ?_); rintro e w3 ⟨rfl, hf3⟩; have K3 : Fr No y w3 := Fr.trans (And.left (by assumption)) hf3; clear hf3)) | (go_at_call 12; ((with_reducible refine (at_prog HP.out (HC.out _ (And.left (by assumption))).1).mono ?_); rintro e w3 ⟨rfl, hf3⟩; have K3 : Fr No y w3 := Fr.trans (And.left (by assumption)) hf3; clear hf3)) | (go_at_call 13; ((with_reducible refine (at_prog HP.out (HC.out _ (And.left (by assumption))).2.1).mono ?_); rintro e w3 ⟨rfl, hf3⟩; have K3 : Fr No y w3 := Fr.trans (And.left (by assumption)) hf3; clear hf3)) | (go_at_call 14; ((with_reducible refine (at_prog HP.out (HC.out _ (And.left (by assumption))).2.2.1).mono ?_); rintro e w3 ⟨rfl, hf3⟩; have K3 : Fr No y w3 := Fr.trans (And.left (by assumption)) hf3; clear hf3)) | (go_at_call 16; ((with_reducible refine (at_prog HP.out (HC.out _ (And.left (by assumption))).2.2.2).mono ?_); rintro e w3 ⟨rfl, hf3⟩; have K3 : Fr No y w3 := Fr.trans (And.left (by assumption)) hf3; clear hf3)) | (go_at_call 15; ((with_reducible refine (at_prog HP.out (HHN.out _)).mono ?_); rintro e w3 ⟨rfl, hw3⟩; replace hw3 := hw3.symm; subst hw3)))
  all_goals go_wp2_with fail
  all_goals go_ret
  all_goals exact ⟨rfl, HF5.out.trans (by assumption)⟩
end Go.Proofs.YtnadendhboiliaaGreat
