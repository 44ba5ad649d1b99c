/-
  CONTRACTS of Parse, over this seat's translation: what the call returns; and what the pure functions give at the texts of the fixed example.
  Conditions: the string is shorter than 2 to the 31; the package variables are as Glob says.
-/
import Derived.Test.YtdnfmilihfkhmaaDoorP6
import Derived.Test.YtdnfmilihfkhmaaDoorU
import Derived.Test.YtdnfmilihfkhmaaDoorC
namespace Go.Proofs.YtdnfmilihfkhmaaDoor
open Go.ChangeShapes Go.WideShapes Go.ChangeAt Go.RowKit
set_option linter.unusedVariables false

theorem res6 {l : List UInt8} (h : l.contains 58 = true) : resB (parseS l) = isQ (parse6 l) ∧ resX (parseS l) = oct (parse6 l) ∧ (parseS l).isSome = isQ (parse6 l) := by
  rw [parseS, if_pos h]
  cases parse6 l <;> exact ⟨rfl, rfl, rfl⟩
theorem res4 {l : List UInt8} (h : l.contains 58 = false) : resB (parseS l) = false ∧ resX (parseS l) = quad (par 3 l) ∧ (parseS l).isSome = isQ (par 3 l) := by
  rw [parseS, h, if_neg (by simp)]
  cases hp : par 3 l with
  | none => exact ⟨rfl, rfl, rfl⟩
  | some xs =>
    have h4 := par_length 3 l xs hp
    match xs, h4 with
    | [a, b, c, d], _ => exact ⟨rfl, rfl, rfl⟩
theorem resX_bytes (l : List UInt8) : Bytes (resX (parseS l)) := by
  cases h : l.contains 58 with
  | true =>
    rw [(res6 h).2.1]
    cases hp : parse6 l with
    | none => exact zeros_bytes
    | some gs =>
      have hl : gs.length = 8 ∧ ∀ g ∈ gs, g < 65536 := by
        unfold parse6 at hp
        split at hp
        · cases hg : grpP true l with
          | none => rw [hg] at hp; cases hp
          | some hs =>
            rw [hg] at hp
            unfold eight at hp
            split at hp
            · rename_i h1
              cases h1
              split at hp
              · rename_i h8; cases hp; exact ⟨h8, grpP_lt hg⟩
              · cases hp
            · cases hp
        · rename_i a b hc
          cases hg : grpP false a with
          | none => rw [hg] at hp; cases hp
          | some gs1 =>
            cases hh : grpP true b with
            | none => rw [hg, hh] at hp; cases hp
            | some gs2 =>
              rw [hg, hh] at hp
              have e : fill (some gs1) (some gs2) = if gs1.length + gs2.length ≤ 7 then some (gs1 ++ (List.replicate (8 - gs1.length - gs2.length) 0 ++ gs2)) else none := rfl
              rw [e] at hp
              split at hp
              · rename_i h7
                cases hp
                refine ⟨by simp; omega, ?_⟩
                intro g hg'
                rcases List.mem_append.1 hg' with hg' | hg'
                · exact grpP_lt hg g hg'
                · rcases List.mem_append.1 hg' with hg' | hg'
                  · have := List.eq_of_mem_replicate hg'; omega
                  · exact grpP_lt hh g hg'
              · cases hp
      exact ⟨by rw [oct, pack_length, hl.1], pack_bytes hl.2⟩
  | false =>
    rw [(res4 h).2.1]
    cases hp : par 3 l with
    | none => exact zeros_bytes
    | some xs =>
      have h4 := par_length 3 l xs hp
      have hlt := par_lt 3 l xs hp
      match xs, h4 with
      | [a, b, c, d], _ => exact v4_bytes (hlt a (by simp)) (hlt b (by simp)) (hlt c (by simp)) (hlt d (by simp))

set_option maxHeartbeats 2000000 in
set_option maxRecDepth 100000 in
theorem parse_any (l : List UInt8) (w : World) (hG : Glob w) (hl : l.length < 2147483648) :
    Calls Tryd.prog 20 #[.string (bs l)] w fun e w' => e = .returned (.tuple #[.agg (adr (resB (parseS l)) (resX (parseS l))).toArray, .bool (parseS l).isSome]) ∧ Fr No w w' := by
  obtain ⟨Z, hZ⟩ : ∃ Z : Array Value, (adr false zeros).toArray = Z := ⟨_, rfl⟩
  have v24 := zero24
  rw [hZ] at v24
  have hz17 : Z.size = 17 := by rw [← hZ]; rfl
  have hb := heap_alloc_new w (.cells Z 24)
  have hF := Fr.alloc No w (.cells Z 24)
  have HX := Lib.hid (resX_bytes l)
  have STO : Hid (∀ w3, Fr No (w.alloc (.cells Z 24)) w3 → ∃ y, Sem.run PD (storeCells ⟨w.heap.size, 0, none⟩ (adr (resB (parseS l)) (resX (parseS l))) 0) w3 = .ok () y ∧ y.heap[w.heap.size]? = some (.cells (adr (resB (parseS l)) (resX (parseS l))).toArray 24 (0, 0)) ∧ Fr No w y) := fun w3 hf => by
    obtain ⟨y, h1, h2, h3⟩ := store_all (P := PD) (adr (resB (parseS l)) (resX (parseS l))) (hf.keep hb) (by rw [adr_length, HX.out.1, hz17]) (adr_one _ _)
    exact ⟨y, h1, h2, (hF.trans hf).ofNew h3 fun k hk => .inr (by omega)⟩
  have HG := Lib.hid (And.intro hG hl)
  clear hG hl hb hF
  cases hc : l.contains 58 with
  | true =>
    obtain ⟨r1, r2, r3⟩ := res6 hc
    have HR := Lib.hid (And.intro r1 (And.intro r2 r3))
    clear r1 r2 r3
    go_enter Tryd.func20, Tryd.ntmps20
    have t4 := Tryd.underlying4
    have u4 := Tryd.runUnderlying4
    have g4 := Tryd.isAgg4
    have z4 := Tryd.sizeOf4
    have t9 := Tryd.underlying9
    have u9 := Tryd.runUnderlying9
    have g9 := Tryd.isAgg9
    have z9 := Tryd.sizeOf9
    have t24 := Tryd.underlying24
    have u24 := Tryd.runUnderlying24
    have g24 := Tryd.isAgg24
    have z24 := Tryd.sizeOf24
    have c44 := Tryd.call44
    have c45 := Tryd.call45
    have c46 := Tryd.call46
    have mixed : Tryd.prog.follows .mixedOrders = true := by kernel_rfl
    obtain ⟨k24, hk24⟩ : ∃ k, k = 17 := ⟨_, rfl⟩
    rw [← hk24] at z24
    have nk24 : ¬ k24 = 0 := by omega
    have HK24 := Lib.hid hk24
    have hP : Tryd.prog = PD := rfl
    rw [hP] at t4 u4 g4 z4 t9 u9 g9 z9 t24 u24 g24 z24 c44 c45 c46 mixed v24 ⊢
    have HP := Lib.hid hP.symm
    clear hP hk24
    go_wp2_with (first | (go_at_call 44; refine (at_prog HP.out (contains_any l 58 _)).mono ?_; rintro e w3 ⟨rfl, rfl⟩; rw [hc]) | fail)
    have hv6 := parseV6_any l (w.alloc (.cells Z 24)) (HG.out.1.fr (Fr.alloc No _ _)) HG.out.2
    rw [← HR.out.1, ← HR.out.2.1] at hv6
    refine (at_prog HP.out hv6).mono ?_
    rintro e w4 ⟨rfl, hf4⟩
    obtain ⟨y, hst, hyb, hyf⟩ := STO.out w4 hf4
    have hv : (adr (resB (parseS l)) (resX (parseS l))).length = k24 := by rw [HK24.out, adr_length, HX.out.1]
    have HY := Lib.hid (And.intro hyb hyf)
    have HB : Hid (resB (parseS l) = (parseS l).isSome) := by show _ = _; rw [HR.out.1, HR.out.2.2]
    clear hyb hyf hf4 hv6
    rw [HB.out] at hst hv HY ⊢
    generalize hV : adr (parseS l).isSome (resX (parseS l)) = V at hst hv HY ⊢
    have HV := Lib.hid hV
    clear hV
    go_wp2_with fail
    refine bodyPost_ret_by (results_agg_tmp rfl _ (b := w.heap.size) (k := 17) (cs := V.toArray) (Tryd.isAgg24 _) (Tryd.sizeOf24 _) rfl (load_all HY.out.1 (by rw [← HV.out, adr_length, HX.out.1]))) rfl ?_
    exact ⟨by rw [HB.out, ← HV.out]; rfl, HY.out.2⟩
  | false =>
    obtain ⟨r1, r2, r3⟩ := res4 hc
    have HR := Lib.hid (And.intro r1 (And.intro r2 r3))
    clear r1 r2 r3
    go_enter Tryd.func20, Tryd.ntmps20
    have t4 := Tryd.underlying4
    have u4 := Tryd.runUnderlying4
    have g4 := Tryd.isAgg4
    have z4 := Tryd.sizeOf4
    have t9 := Tryd.underlying9
    have u9 := Tryd.runUnderlying9
    have g9 := Tryd.isAgg9
    have z9 := Tryd.sizeOf9
    have t24 := Tryd.underlying24
    have u24 := Tryd.runUnderlying24
    have g24 := Tryd.isAgg24
    have z24 := Tryd.sizeOf24
    have c44 := Tryd.call44
    have c45 := Tryd.call45
    have c46 := Tryd.call46
    have mixed : Tryd.prog.follows .mixedOrders = true := by kernel_rfl
    obtain ⟨k24, hk24⟩ : ∃ k, k = 17 := ⟨_, rfl⟩
    rw [← hk24] at z24
    have nk24 : ¬ k24 = 0 := by omega
    have HK24 := Lib.hid hk24
    have hP : Tryd.prog = PD := rfl
    rw [hP] at t4 u4 g4 z4 t9 u9 g9 z9 t24 u24 g24 z24 c44 c45 c46 mixed v24 ⊢
    have HP := Lib.hid hP.symm
    clear hP hk24
    go_wp2_with (first | (go_at_call 44; refine (at_prog HP.out (contains_any l 58 _)).mono ?_; rintro e w3 ⟨rfl, rfl⟩; rw [hc]) | fail)
    have hv6 := parseV4_any l (w.alloc (.cells Z 24)) (HG.out.1.fr (Fr.alloc No _ _)) HG.out.2
    rw [← HR.out.2.1, ← HR.out.2.2] at hv6
    refine (at_prog HP.out hv6).mono ?_
    rintro e w4 ⟨rfl, hf4⟩
    obtain ⟨y, hst, hyb, hyf⟩ := STO.out w4 hf4
    have hv : (adr (resB (parseS l)) (resX (parseS l))).length = k24 := by rw [HK24.out, adr_length, HX.out.1]
    have HY := Lib.hid (And.intro hyb hyf)
    clear hyb hyf hf4 hv6
    rw [HR.out.1] at hst hv HY
    generalize hV : adr false (resX (parseS l)) = V at hst hv HY ⊢
    have HV := Lib.hid hV
    clear hV
    go_wp2_with fail
    refine bodyPost_ret_by (results_agg_tmp rfl _ (b := w.heap.size) (k := 17) (cs := V.toArray) (Tryd.isAgg24 _) (Tryd.sizeOf24 _) rfl (load_all HY.out.1 (by rw [← HV.out, adr_length, HX.out.1]))) rfl ?_
    exact ⟨by rw [HR.out.1, ← HV.out]; rfl, HY.out.2⟩
end Go.Proofs.YtdnfmilihfkhmaaDoor
