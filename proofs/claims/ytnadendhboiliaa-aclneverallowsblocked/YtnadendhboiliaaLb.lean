/-
  THE LAW AclNeverAllowsBlocked: its walk.
  Conditions: the list lies in memory.
-/
import Derived.Test.YtnadendhboiliaaLa
import Derived.Test.YtnadendhboiliaaBi
namespace Go.Proofs.Ytnadendhboiliaa
open Go.ChangeShapes Go.WideShapes Go.ChangeAt Go.RowKit
set_option linter.unusedVariables false

theorem alA_blocked {L : List Ru} {c : Bool} {ys : List Nat} {port : Int} (h : 0 ≤ bIdx c ys) : alA L c ys port = false := by
  unfold alA
  rw [decide_eq_true h]
  simp
theorem bV_nil (m : Ru → Bool) (k : Ru → Int) : bV m k [] = -1 := rfl
theorem alN_nil {nl : List UInt8} (port : Int) (h : nameV nl = true) : alN [] nl port = true := by
  unfold alN
  rw [h, bV_nil]
  rfl

set_option maxHeartbeats 8000000 in
set_option maxRecDepth 100000 in
theorem blocked_walk (a : Option Addr) (n cp : Nat) (b : Bool) (xs : List Nat) (port : Int) (w : World) (ha : InR w a n) (hx : Bytes xs) :
    Calls Try.prog 7 #[.slice a n cp, .agg (adr b xs).toArray, .int .i64 port] w fun e w' => e = .returned (.bool true) ∧ Fr No w w' := by
  obtain ⟨L0, hL0, hr0⟩ := ha.row
  have HRL : Hid (∀ w', Fr No w w' → Calls Try.prog 15 #[.slice a n cp, .int .i64 10, .bool true] w' (GenL 10 w')) := fun w' hf => rules_gen L0 n hL0 a cp w' (hr0.no hf) 10 (by decide) true
  clear hL0 hr0 ha
  obtain ⟨A, hA, -, hAs, -⟩ := adr_letter b xs hx
  obtain ⟨Z, hZ⟩ : ∃ Z : Array Value, (adr false zeros).toArray = Z := ⟨_, rfl⟩
  have v26 := zero26
  rw [hZ] at v26
  have hZs : Z.size = 17 := by rw [← hZ]; rfl
  have HSA : Hid (∀ w', Calls Try.prog 16 #[.agg A] w' (GenB w')) := fun w' => by rw [← hA]; exact saddr_gen b xs hx w'
  have HF0 : Hid (Fr No w (w.alloc (.cells A 26)) ∧ (w.alloc (.cells A 26)).heap[w.heap.size]? = some (.cells A 26 (0, 0))) := ⟨Fr.alloc No w _, heap_alloc_new w _⟩
  have HN0 : Hid (∀ w', Calls Try.prog 11 #[.slice none 0 0] w' (GenX [] w')) := fun w' => newl [] 0 rfl (fun r hr => by cases hr) (by decide) none 0 0 w' (World.ownsRow_nil _ _ _ _)
  obtain ⟨fh, hfh, hfn⟩ := host_all
  have HHN : Hid (∀ w', Calls Try.prog 22 #[.int .i64 port] w' fun e w'' => e = .returned (.string (bs (fh port))) ∧ w'' = w') := fun w' => hfn port w'
  have hnm : nameV (fh port) = true := (hfh port).1
  generalize fh port = hl at HHN hnm
  rw [hA]
  clear hA hx hZ hfh hfn
  go_enter Try.func7, Try.ntmps7
  have t3 := Try.underlying3
  have u3 := Try.runUnderlying3
  have g3 := Try.isAgg3
  have z3 := Try.sizeOf3
  have t4 := Try.underlying4
  have u4 := Try.runUnderlying4
  have g4 := Try.isAgg4
  have z4 := Try.sizeOf4
  have t9 := Try.underlying9
  have u9 := Try.runUnderlying9
  have g9 := Try.isAgg9
  have z9 := Try.sizeOf9
  have t22 := Try.underlying22
  have u22 := Try.runUnderlying22
  have g22 := Try.isAgg22
  have z22 := Try.sizeOf22
  have t26 := Try.underlying26
  have u26 := Try.runUnderlying26
  have g26 := Try.isAgg26
  have z26 := Try.sizeOf26
  have t32 := Try.underlying32
  have u32 := Try.runUnderlying32
  have g32 := Try.isAgg32
  have z32 := Try.sizeOf32
  have t33 := Try.underlying33
  have u33 := Try.runUnderlying33
  have g33 := Try.isAgg33
  have z33 := Try.sizeOf33
  have c11 := Try.call11
  have c14 := Try.call14
  have c15 := Try.call15
  have c16 := Try.call16
  have c18 := Try.call18
  have c20 := Try.call20
  have c22 := Try.call22
  have c25 := Try.call25
  have c30 := Try.call30
  have mixed : Try.prog.follows .mixedOrders = true := by kernel_rfl
  obtain ⟨k17, hk17⟩ : ∃ k, k = 17 := ⟨_, rfl⟩
  rw [← hk17] at z26
  have nk17 : ¬ k17 = 0 := by omega
  have HK26 := Lib.hid hk17
  have hP : Try.prog = PD := rfl
  rw [hP] at t3 u3 g3 z3 t4 u4 g4 z4 t9 u9 g9 z9 t22 u22 g22 z22 t26 u26 g26 z26 t32 u32 g32 z32 t33 u33 g33 z33 c11 c14 c15 c16 c18 c20 c22 c25 c30 mixed v26 ⊢
  have HP := Lib.hid hP.symm
  clear hP hk17
  have hAk : A.size = k17 := by rw [HK26.out]; exact hAs
  have hZk : Z.size = k17 := by rw [HK26.out]; exact hZs
  have HZ := Lib.hid hZs
  clear hAs hZs
  go_upto_region 6 with (first | (go_at_call 15; ((refine (at_prog HP.out (HRL.out _ HF0.out.1)).mono ?_); rintro e w1 ⟨L, m, ad, c, rfl, hLm, hm, hok, hv, ho, hf1⟩)) | (go_at_call 11; ((with_reducible refine (at_prog HP.out (newl L m hLm hok hv ad c _ w1 ho)).mono ?_); rintro e w2 ⟨x, rfl, hI, hf2⟩)) | (go_at_call 11; ((with_reducible refine (at_prog HP.out (HN0.out _)).mono ?_); rintro e w3 ⟨x', rfl, hI', hf3⟩)) | fail)
  have HI1 : Hid (∃ n0 tb ra rc T X, Inc n0 w3 x L L.length tb ra rc T X) := by
    obtain ⟨n0, tb, ra, rc, T, X, h⟩ := hI.out
    exact ⟨n0, tb, ra, rc, T, X, h.no hf3⟩
  have hF03 : Fr No (w.alloc (.cells A 26)) w3 := (hf1.trans hf2).trans hf3
  have HW3 : Hid (Fr No w w3 ∧ L.length ≤ 32) := ⟨HF0.out.1.trans hF03, by omega⟩
  have l0 : Sem.run PD (loadCellsFrom ⟨w.heap.size, 0, none⟩ 0 k17 #[]) w3 = .ok A w3 := load_block (hF03.keep HF0.out.2) hAk (fun j v hv => by simpa using hv)
  clear hF03 hI ho hf1 hf2 hf3 hok hv hLm hm
  go_upto_region 7 with (first | (go_at_call 16; ((with_reducible refine (at_prog HP.out (HSA.out _)).mono ?_); rintro e w4 ⟨c', ys, hys, rfl, hf4⟩; obtain ⟨B, hB, -, hBs, -⟩ := adr_letter c' ys hys; rw [hB]; have hBk : B.size = k17 := hBs.trans HK26.out.symm; obtain ⟨y, hst, hyb, hyf⟩ := store_all (P := PD) B.toList (heap_alloc_new w4 (.cells Z 26)) (by rw [Array.length_toList, hBs, HZ.out]) (by rw [← hB]; exact fun u hu => adr_one _ _ u (by simpa using hu)))) | fail)
  obtain ⟨ub, hub⟩ : ∃ ub, w4.heap.size = ub := ⟨_, rfl⟩
  have hFy : Fr No w3 y := (hf4.trans (Fr.alloc No w4 _)).ofNew hyf fun k hk => .inr (by rw [hk]; exact hf4.size)
  rw [hub] at hyb ⊢
  have HY : Hid (Fr No w3 y ∧ y.heap[ub]? = some (.cells B 26 (0, 0))) := ⟨hFy, by simpa using hyb⟩
  have HLB : Hid (∀ w', Fr No y w' → Sem.run PD (loadCellsFrom ⟨ub, 0, none⟩ 0 k17 #[]) w' = .ok B w') := fun w' hf => load_block (hf.keep HY.out.2) hBk (fun j v hv => by simpa using hv)
  have HA1 : Hid (∀ w', Fr No y w' → Calls Try.prog 20 #[.pointer (some ⟨x, 0, none⟩), .agg B, .int .i64 port] w' fun e w'' => e = .returned (.bool (alA L c' ys port)) ∧ Fr No w' w'') := fun w' hf => by
    obtain ⟨n0, tb, ra, rc, T, X, h⟩ := HI1.out
    rw [← hB]
    exact allowa_any n0 w' x L tb ra rc T X (h.no (HY.out.1.trans hf)) HW3.out.2 c' ys hys port
  have HA2 : Hid (∀ w', Fr No y w' → Calls Try.prog 20 #[.pointer (some ⟨x', 0, none⟩), .agg B, .int .i64 port] w' fun e w'' => e = .returned (.bool false) ∧ Fr No w' w'') := fun w' hf => by
    obtain ⟨n0, tb, ra, rc, T, X, h⟩ := hI'.out
    rw [← hB]
    exact allowa_any n0 w' x' [] tb ra rc T X (h.no (HY.out.1.trans hf)) (by decide) c' ys hys port
  have HA3 : Hid (∀ w', Fr No y w' → Calls Try.prog 18 #[.pointer (some ⟨x', 0, none⟩), .agg B, .int .i64 port] w' fun e w'' => e = .returned (.int .i64 (-1)) ∧ Fr No w' w'') := fun w' hf => by
    obtain ⟨n0, tb, ra, rc, T, X, h⟩ := hI'.out
    rw [← hB]
    exact match_any n0 w' x' [] tb ra rc T X (h.no (HY.out.1.trans hf)) (by decide) c' ys hys port
  have HA4 : Hid (∀ w', Fr No y w' → Calls Try.prog 25 #[.pointer (some ⟨x', 0, none⟩), .string (bs hl), .int .i64 port] w' fun e w'' => e = .returned (.bool true) ∧ Fr No w' w'') := fun w' hf => by
    obtain ⟨n0, tb, ra, rc, T, X, h⟩ := hI'.out
    have h2 := allown_any n0 w' x' [] tb ra rc T X (h.no (HY.out.1.trans hf)) (by decide) hl port
    rw [alN_nil port hnm] at h2
    exact h2
  have HBX : Hid (∀ w', Calls Try.prog 30 #[.agg B] w' fun e w'' => e = .returned (.int .i64 (bIdx c' ys)) ∧ Fr No w' w'') := fun w' => by rw [← hB]; exact bidx_ref c' ys hys w'
  have HBL : Hid (0 ≤ bIdx c' ys → alA L c' ys port = false) := alA_blocked
  have HF3 : Hid (Fr No w y) := HW3.out.1.trans HY.out.1
  have K0 : Fr No y y := Fr.refl No y
  obtain ⟨s, hs⟩ : ∃ s, bs hl = s := ⟨_, rfl⟩
  rw [hs] at HHN HA4
  generalize alA L c' ys port = va at HA1 HBL
  generalize bIdx c' ys = vi at HBX HBL
  clear hst hyb hyf hFy hf4 hub hB hys hBk hZk hAk hBs l0 hnm hI' hs
  by_cases h0 : 0 ≤ vi
  · obtain rfl : va = false := HBL.out h0
    go_wp2_with (first | (go_at_call 14; ((with_reducible refine (at_prog HP.out (awake_any _)).mono ?_); rintro e wv ⟨rfl, hv⟩; have K : Fr No y wv := Fr.trans (by assumption) hv; have lB := HLB.out _ K; clear hv)) | (go_at_call 30; ((with_reducible refine (at_prog HP.out (HBX.out _)).mono ?_); rintro e wv ⟨rfl, hv⟩; have K : Fr No y wv := Fr.trans (by assumption) hv; have lB := HLB.out _ K; clear hv)) | (go_at_call 20; ((with_reducible refine (at_prog HP.out (HA1.out _ (by assumption))).mono ?_); rintro e wv ⟨rfl, hv⟩; have K : Fr No y wv := Fr.trans (by assumption) hv; have lB := HLB.out _ K; clear hv)) | (go_at_call 20; ((with_reducible refine (at_prog HP.out (HA2.out _ (by assumption))).mono ?_); rintro e wv ⟨rfl, hv⟩; have K : Fr No y wv := Fr.trans (by assumption) hv; have lB := HLB.out _ K; clear hv)) | (go_at_call 18; ((with_reducible refine (at_prog HP.out (HA3.out _ (by assumption))).mono ?_); rintro e wv ⟨rfl, hv⟩; have K : Fr No y wv := Fr.trans (by assumption) hv; have lB := HLB.out _ K; clear hv)) | (go_at_call 22; ((with_reducible refine (at_prog HP.out (HHN.out _)).mono ?_); rintro e wv ⟨rfl, hv⟩; replace hv := hv.symm; subst hv)) | (go_at_call 25; ((with_reducible refine (at_prog HP.out (HA4.out _ (by assumption))).mono ?_); rintro e wv ⟨rfl, hv⟩; have K : Fr No y wv := Fr.trans (by assumption) hv; clear hv)) | fail)
    go_ret
    exact ⟨rfl, HF3.out.trans (by assumption)⟩
  · go_wp2_with (first | (go_at_call 14; ((with_reducible refine (at_prog HP.out (awake_any _)).mono ?_); rintro e wv ⟨rfl, hv⟩; have K : Fr No y wv := Fr.trans (by assumption) hv; have lB := HLB.out _ K; clear hv)) | (go_at_call 30; ((with_reducible refine (at_prog HP.out (HBX.out _)).mono ?_); rintro e wv ⟨rfl, hv⟩; have K : Fr No y wv := Fr.trans (by assumption) hv; have lB := HLB.out _ K; clear hv)) | (go_at_call 20; ((with_reducible refine (at_prog HP.out (HA2.out _ (by assumption))).mono ?_); rintro e wv ⟨rfl, hv⟩; have K : Fr No y wv := Fr.trans (by assumption) hv; have lB := HLB.out _ K; clear hv)) | (go_at_call 18; ((with_reducible refine (at_prog HP.out (HA3.out _ (by assumption))).mono ?_); rintro e wv ⟨rfl, hv⟩; have K : Fr No y wv := Fr.trans (by assumption) hv; have lB := HLB.out _ K; clear hv)) | (go_at_call 22; ((with_reducible refine (at_prog HP.out (HHN.out _)).mono ?_); rintro e wv ⟨rfl, hv⟩; replace hv := hv.symm; subst hv)) | (go_at_call 25; ((with_reducible refine (at_prog HP.out (HA4.out _ (by assumption))).mono ?_); rintro e wv ⟨rfl, hv⟩; have K : Fr No y wv := Fr.trans (by assumption) hv; clear hv)) | fail)
    go_ret
    exact ⟨rfl, HF3.out.trans (by assumption)⟩
end Go.Proofs.Ytnadendhboiliaa
