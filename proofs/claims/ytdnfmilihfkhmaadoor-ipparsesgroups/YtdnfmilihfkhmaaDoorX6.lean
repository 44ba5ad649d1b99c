/-
  THE WALK of the law IpParsesGroups: it gives true.
  Conditions: the groups lie in memory; the package variables are as Gl says.
-/
import Derived.Test.YtdnfmilihfkhmaaDoorX4
import Derived.Test.YtdnfmilihfkhmaaDoorR8
import Derived.Deep.DeepCutAuto
import Derived.Deep.CutBlock
namespace Go.Proofs.YtdnfmilihfkhmaaDoor
open Go.ChangeShapes Go.WideShapes Go.ChangeAt Go.RowKit
set_option linter.unusedVariables false

theorem nope {p : Prop} (h : false = true) : p := by cases h
theorem hexs_size : ∀ d, d < 16 → ((⟨#[48, 49, 50, 51, 52, 53, 54, 55, 56, 57, 97, 98, 99, 100, 101, 102]⟩ : ByteArray).extract d (d + 1)).size = 1 := by decide
theorem hexS_size : ∀ d, d < 16 → ((⟨#[48, 49, 50, 51, 52, 53, 54, 55, 56, 57, 65, 66, 67, 68, 69, 70]⟩ : ByteArray).extract d (d + 1)).size = 1 := by decide
theorem nib (x : Nat) (h : x < 65536) : bits .and .u16 (x : Int) 15 = ((x % 16 : Nat) : Int) := by
  have h1 := bits_mask .u16 16 (by decide) wrap_u16 4 (by decide) (x : Int) (by omega) (by omega)
  have e : ((2 : Int) ^ 4 - 1) = 15 := by decide
  rw [e] at h1
  rw [h1]
  omega
theorem byte_lo (x : Nat) (h : x < 65536) : bits .and .u16 (x : Int) 255 = ((x % 256 : Nat) : Int) := by
  have h1 := bits_mask .u16 16 (by decide) wrap_u16 8 (by decide) (x : Int) (by omega) (by omega)
  have e : ((2 : Int) ^ 8 - 1) = 255 := by decide
  rw [e] at h1
  rw [h1]
  omega

set_option maxHeartbeats 1000000 in
set_option maxRecDepth 100000 in
theorem mod_some (i : Int) (w : World) :
    Calls Tryd.prog 23 #[.int .i64 i, .int .i64 11] w fun e w' => ∃ k : Int, e = .returned (.int .i64 k) ∧ w' = w := by
  go_enter Tryd.func23, Tryd.ntmps23
  go_wp2_with fail
  go_ret
  exact ⟨_, rfl, rfl⟩

set_option maxHeartbeats 8000000 in
set_option maxRecDepth 100000 in
theorem groups_walk (ad : Option Addr) (n cp : Nat) (gs : List Nat) (t : Int) (four upper : Bool) (w : World) (hG : Gl w) (hat : At w ad (nums .u16 gs)) (hgl : gs.length = n) (hg6 : ∀ g ∈ gs, g < 65536) :
    Calls Tryd.prog 6 #[.slice ad n cp, .int .i64 t, .bool four, .bool upper] w fun e w' => e = .returned (.bool true) ∧ Fr No w w' := by
  have HG := Lib.hid (And.intro hG (And.intro hat (And.intro hgl hg6)))
  have v24 := zero24
  obtain ⟨Z, hZ⟩ : ∃ Z : Array Value, (adr false zeros).toArray = Z := ⟨_, rfl⟩
  rw [hZ] at v24
  have HZ : Hid (Z.size = 17) := by show _ = _; rw [← hZ]; rfl
  have HAW : Hid (∀ w', Fr No w w' → Calls Tryd.prog 10 #[] w' fun e w'' => e = .returned (.bool true) ∧ Fr No w' w'') := fun w' hf => awake_any w' (HG.out.1.fr hf)
  have HPR : Hid (∀ s : ByteArray, s.size < 2147483648 → ∃ (A : Array Value) (b : Bool), A.size = 17 ∧ (∀ u ∈ A.toList, u.oneCell' = true) ∧ (∀ w, Sem.run PD (Op.equalIn 10000 24 (.agg A) (.agg A)) w = .ok true w) ∧ (∀ w', Fr No w w' → Calls Tryd.prog 20 #[.string s] w' fun e w'' => e = .returned (.tuple #[.agg A, .bool b]) ∧ Fr No w' w'') ∧ (∀ w', Calls Tryd.prog 21 #[.string s] w' fun e w'' => e = .returned (.tuple #[.agg A, .bool b]) ∧ Fr No w' w'')) := fun s hs => by
    obtain ⟨l, rfl⟩ : ∃ l, s = bs l := ⟨_, bs_of s⟩
    rw [bs_size] at hs
    refine ⟨(adr (resB (parseS l)) (resX (parseS l))).toArray, (parseS l).isSome, by rw [List.size_toArray, adr_length, (resX_bytes l).1], adr_one _ _, fun w => ?_, fun w' hf => parse_any l w' (HG.out.1.fr hf).g hs, fun w' => parse_ref l hs w'⟩
    have := adr_eq (b := resB (parseS l)) (c := resB (parseS l)) (resX_bytes l) (resX_bytes l) w
    rw [show Sem.run PD _ w = Sem.run Tryd.prog _ w from rfl, this]; simp
  have HDC : Hid (∀ x, x < 256 → (str (decN x)).size ≤ 3 ∧ ∀ w', Calls Tryd.prog 24 #[.int .i64 (x : Nat)] w' fun e w'' => e = .returned (.string (str (decN x))) ∧ Fr No w' w'') := fun x h => ⟨by rw [str_size]; exact decN_length h, fun w' => fdec_ref x (by omega) w'⟩
  clear hZ hG hat hgl hg6
  obtain ⟨nn, hnn⟩ : ∃ nn : Nat, nn = min n 9 := ⟨_, rfl⟩
  have hmin : min (n : Int) 9 = (nn : Int) := by omega
  have hnn9 : nn ≤ 9 ∧ nn ≤ n := by omega
  clear hnn
  go_enter Tryd.func6, Tryd.ntmps6
  have q24 := Tryd.eqGuardType24
  have t3 := Tryd.underlying3
  have u3 := Tryd.runUnderlying3
  have g3 := Tryd.isAgg3
  have z3 := Tryd.sizeOf3
  have t4 := Tryd.underlying4
  have u4 := Tryd.runUnderlying4
  have g4 := Tryd.isAgg4
  have z4 := Tryd.sizeOf4
  have t5 := Tryd.underlying5
  have u5 := Tryd.runUnderlying5
  have g5 := Tryd.isAgg5
  have z5 := Tryd.sizeOf5
  have t9 := Tryd.underlying9
  have u9 := Tryd.runUnderlying9
  have g9 := Tryd.isAgg9
  have z9 := Tryd.sizeOf9
  have t22 := Tryd.underlying22
  have u22 := Tryd.runUnderlying22
  have g22 := Tryd.isAgg22
  have z22 := Tryd.sizeOf22
  have t24 := Tryd.underlying24
  have u24 := Tryd.runUnderlying24
  have g24 := Tryd.isAgg24
  have z24 := Tryd.sizeOf24
  have t30 := Tryd.underlying30
  have u30 := Tryd.runUnderlying30
  have g30 := Tryd.isAgg30
  have z30 := Tryd.sizeOf30
  have t37 := Tryd.underlying37
  have u37 := Tryd.runUnderlying37
  have g37 := Tryd.isAgg37
  have z37 := Tryd.sizeOf37
  have t39 := Tryd.underlying39
  have u39 := Tryd.runUnderlying39
  have g39 := Tryd.isAgg39
  have z39 := Tryd.sizeOf39
  have c10 := Tryd.call10
  have c20 := Tryd.call20
  have c21 := Tryd.call21
  have c23 := Tryd.call23
  have c24 := Tryd.call24
  have mixed : Tryd.prog.follows .mixedOrders = true := by kernel_rfl
  obtain ⟨k24, hk24⟩ : ∃ k, k = 17 := ⟨_, rfl⟩
  rw [← hk24] at z24
  have nk24 : ¬ k24 = 0 := by omega
  have HK24 := Lib.hid hk24
  have hP : Tryd.prog = PD := rfl
  rw [hP] at t3 u3 g3 z3 t4 u4 g4 z4 t5 u5 g5 z5 t9 u9 g9 z9 t22 u22 g22 z22 t24 u24 g24 z24 t30 u30 g30 z30 t37 u37 g37 z37 t39 u39 g39 z39 c10 c20 c21 c23 c24 mixed v24 q24 ⊢
  have HP := Lib.hid hP.symm
  clear hP hk24
  go_wp2_with fail
  refine (at_prog HP.out (mod_some t w)).mono ?_
  rintro e w1 ⟨k, rfl, hw1⟩
  have hw1' := hw1.symm
  subst hw1'
  clear hw1
  go_upto_block 0 with fail
  go_cut [9] (fun s9 wx => ∃ st : ByteArray, s9 = .string st ∧ st.size ≤ 400 ∧ Hid (Fr No w wx))
  case first =>
    go_wp2_with fail
    go_loopg [9, 12] (nn + 1) (fun g s9 s12 wr => ∃ (i : Nat) (st : ByteArray), s9 = .string st ∧ s12 = .int .i64 i ∧ i ≤ nn ∧ nn - i < g ∧ st.size ≤ 10 * i ∧ Hid (Fr No w wr))
    case atStart => exact ⟨0, ⟨#[]⟩, rfl, by go_num, by omega, by omega, by decide, Fr.refl _ _⟩
    case round =>
      obtain ⟨i, st, rfl, rfl, hin, hig, hst, HR⟩ := hrel
      have q1 : (0 : Int) ≤ (i : Int) := by omega
      by_cases hi : i = nn
      · subst hi
        go_wp2_with fail
        go_meet
        exact ⟨st, rfl, by omega, HR.out⟩
      · have q2 : (i : Int) < (nn : Int) := by omega
        have q3 : (i : Int) < (n : Int) := by omega
        have z1 : ¬ 9223372036854775807 < st.size + 2 := by omega
        have z2 : ¬ 9223372036854775807 < st.size + 1 := by omega
        obtain ⟨g, hg⟩ : ∃ g, gs[i]? = some g := ⟨_, List.getElem?_eq_getElem (by rw [HG.out.2.2.1]; omega)⟩
        obtain ⟨ab, ao, rfl, -⟩ := HG.out.2.1 i _ (nums_get hg)
        have HC : Hid (∀ (j x : Nat) (w' : World), Fr No w w' → gs[j]? = some x → w'.cell? ⟨ab, ao + j, none⟩ = some (.int .u16 x)) := fun j x w' hf hx => by
          obtain ⟨b', o', he, hc⟩ := (HG.out.2.1.frNo hf) j _ (nums_get hx)
          cases he
          exact hc
        have hg6 := HG.out.2.2.2 g (List.mem_of_getElem? hg)
        have HGI := Lib.hid hg
        have g0 : (0 : Int) ≤ (g : Int) := by omega
        have g1 : (g : Int) ≤ 65535 := by omega
        have HRR := Lib.hid HR.out
        clear hg HR
        go_upto_if 31 with fail
        go_cut [9] (fun s9 wx => ∃ st2 : ByteArray, s9 = .string st2 ∧ st2.size ≤ 10 * i + 2 ∧ wx = wr)
        case first =>
          go_wp2_with fail
          all_goals go_meet
          all_goals first
            | exact ⟨st, rfl, by omega, rfl⟩
            | exact ⟨_, rfl, by rw [ByteArray.size_append]; show st.size + 2 ≤ _; omega, rfl⟩
            | exact ⟨_, rfl, by rw [ByteArray.size_append]; show st.size + 1 ≤ _; omega, rfl⟩
        case rest =>
          obtain ⟨st2, rfl, hst2, hwc⟩ := hcut
          have hwc' := hwc.symm
          subst hwc'
          clear hwc z1 z2
          have c1 := HC.out i g _ HRR.out HGI.out
          go_upto_region 12 with fail
          go_cut [54] (fun s54 wx => ∃ c : Bool, s54 = .bool c ∧ (c = true → (i : Int) = (nn : Int) - 2) ∧ wx = wr)
          case first =>
            have hc4 : (four = true ∧ (i : Int) = (nn : Int) - 2 ∧ ¬ k = (nn : Int) - 1) ∨ four = false ∨ (four = true ∧ ¬ (i : Int) = (nn : Int) - 2) ∨ (four = true ∧ (i : Int) = (nn : Int) - 2 ∧ k = (nn : Int) - 1) := by
              cases four
              · exact .inr (.inl rfl)
              · by_cases h1 : (i : Int) = (nn : Int) - 2
                · by_cases h2 : k = (nn : Int) - 1
                  · exact .inr (.inr (.inr ⟨rfl, h1, h2⟩))
                  · exact .inl ⟨rfl, h1, h2⟩
                · exact .inr (.inr (.inl ⟨rfl, h1⟩))
            rcases hc4 with ⟨rfl, h1, h2⟩ | rfl | ⟨rfl, h1⟩ | ⟨rfl, h1, h2⟩
            · have h1' : (nn : Int) - 2 = (i : Int) := h1.symm
              clear h1
              go_wp2_with fail
              go_meet
              exact ⟨_, rfl, fun _ => h1'.symm, rfl⟩
            · go_wp2_with fail
              go_meet
              exact ⟨_, rfl, fun h => nope h, rfl⟩
            · go_wp2_with fail
              go_meet
              exact ⟨_, rfl, fun h => nope h, rfl⟩
            · have h1' : (nn : Int) - 2 = (i : Int) := h1.symm
              have h2' : (nn : Int) - 1 = k := h2.symm
              clear h1 h2
              go_wp2_with fail
              go_meet
              exact ⟨_, rfl, fun h => nope h, rfl⟩
          case rest =>
            obtain ⟨c, rfl, hci, hwc⟩ := hcut
            have hwc' := hwc.symm
            subst hwc'
            clear hwc
            cases c
            · clear hci
              go_wp2_with fail
              go_loopg [9, 14] 6 (fun g s9 s14 wr2 => ∃ (su : ByteArray) (sh : Int) (j : Nat), s9 = .string su ∧ s14 = .int .i64 sh ∧ ((sh = 12 ∧ j = 4) ∨ (sh = 8 ∧ j = 3) ∨ (sh = 4 ∧ j = 2) ∨ (sh = 0 ∧ j = 1) ∨ (sh = -4 ∧ j = 0)) ∧ j < g ∧ su.size + j ≤ 10 * i + 6 ∧ Hid (Fr No w wr2))
              case atStart => exact ⟨st2, 12, 4, rfl, rfl, .inl ⟨rfl, rfl⟩, by omega, by omega, HRR.out⟩
              case round =>
                obtain ⟨su, sh, j, rfl, rfl, hcs, hjg, hsu, HR2⟩ := hrel
                have zu : ¬ 9223372036854775807 < su.size + 1 := by omega
                rcases hcs with ⟨rfl, rfl⟩ | ⟨rfl, rfl⟩ | ⟨rfl, rfl⟩ | ⟨rfl, rfl⟩ | ⟨rfl, rfl⟩
                · have hb := nib (g / 4096) (by omega)
                  have hd : (g / 4096) % 16 < 16 := Nat.mod_lt _ (by omega)
                  have hcn : ((g / 4096 : Nat) : Int) = (g : Int) / 4096 := by omega
                  rw [hcn] at hb
                  have h1 := hexs_size ((g / 4096) % 16) hd
                  have h2 := hexS_size ((g / 4096) % 16) hd
                  generalize (g / 4096) % 16 = d at hb hd h1 h2
                  have d0 : (0 : Int) ≤ (d : Int) := by omega
                  have d1 : (d : Int) + 1 ≤ 16 := by omega
                  have d2 : (d : Int) ≤ (d : Int) + 1 := by omega
                  clear hcn
                  cases upper
                  · have hsz : (su ++ (⟨#[48, 49, 50, 51, 52, 53, 54, 55, 56, 57, 97, 98, 99, 100, 101, 102]⟩ : ByteArray).extract d (d + 1)).size = su.size + 1 := by rw [ByteArray.size_append, h1]
                    have HSZ := Lib.hid hsz
                    clear hsz
                    go_wp2_with fail
                    go_roundg 4
                    case measure => exact hjg
                    case rel => exact ⟨_, 8, 3, rfl, rfl, by omega, by omega, by rw [HSZ.out]; omega, HR2.out⟩
                  · have hsz : (su ++ (⟨#[48, 49, 50, 51, 52, 53, 54, 55, 56, 57, 65, 66, 67, 68, 69, 70]⟩ : ByteArray).extract d (d + 1)).size = su.size + 1 := by rw [ByteArray.size_append, h2]
                    have HSZ := Lib.hid hsz
                    clear hsz
                    go_wp2_with fail
                    go_roundg 4
                    case measure => exact hjg
                    case rel => exact ⟨_, 8, 3, rfl, rfl, by omega, by omega, by rw [HSZ.out]; omega, HR2.out⟩
                · have hb := nib (g / 256) (by omega)
                  have hd : (g / 256) % 16 < 16 := Nat.mod_lt _ (by omega)
                  have hcn : ((g / 256 : Nat) : Int) = (g : Int) / 256 := by omega
                  rw [hcn] at hb
                  have h1 := hexs_size ((g / 256) % 16) hd
                  have h2 := hexS_size ((g / 256) % 16) hd
                  generalize (g / 256) % 16 = d at hb hd h1 h2
                  have d0 : (0 : Int) ≤ (d : Int) := by omega
                  have d1 : (d : Int) + 1 ≤ 16 := by omega
                  have d2 : (d : Int) ≤ (d : Int) + 1 := by omega
                  clear hcn
                  cases upper
                  · have hsz : (su ++ (⟨#[48, 49, 50, 51, 52, 53, 54, 55, 56, 57, 97, 98, 99, 100, 101, 102]⟩ : ByteArray).extract d (d + 1)).size = su.size + 1 := by rw [ByteArray.size_append, h1]
                    have HSZ := Lib.hid hsz
                    clear hsz
                    go_wp2_with fail
                    go_roundg 3
                    case measure => exact hjg
                    case rel => exact ⟨_, 4, 2, rfl, rfl, by omega, by omega, by rw [HSZ.out]; omega, HR2.out⟩
                  · have hsz : (su ++ (⟨#[48, 49, 50, 51, 52, 53, 54, 55, 56, 57, 65, 66, 67, 68, 69, 70]⟩ : ByteArray).extract d (d + 1)).size = su.size + 1 := by rw [ByteArray.size_append, h2]
                    have HSZ := Lib.hid hsz
                    clear hsz
                    go_wp2_with fail
                    go_roundg 3
                    case measure => exact hjg
                    case rel => exact ⟨_, 4, 2, rfl, rfl, by omega, by omega, by rw [HSZ.out]; omega, HR2.out⟩
                · have hb := nib (g / 16) (by omega)
                  have hd : (g / 16) % 16 < 16 := Nat.mod_lt _ (by omega)
                  have hcn : ((g / 16 : Nat) : Int) = (g : Int) / 16 := by omega
                  rw [hcn] at hb
                  have h1 := hexs_size ((g / 16) % 16) hd
                  have h2 := hexS_size ((g / 16) % 16) hd
                  generalize (g / 16) % 16 = d at hb hd h1 h2
                  have d0 : (0 : Int) ≤ (d : Int) := by omega
                  have d1 : (d : Int) + 1 ≤ 16 := by omega
                  have d2 : (d : Int) ≤ (d : Int) + 1 := by omega
                  clear hcn
                  cases upper
                  · have hsz : (su ++ (⟨#[48, 49, 50, 51, 52, 53, 54, 55, 56, 57, 97, 98, 99, 100, 101, 102]⟩ : ByteArray).extract d (d + 1)).size = su.size + 1 := by rw [ByteArray.size_append, h1]
                    have HSZ := Lib.hid hsz
                    clear hsz
                    go_wp2_with fail
                    go_roundg 2
                    case measure => exact hjg
                    case rel => exact ⟨_, 0, 1, rfl, rfl, by omega, by omega, by rw [HSZ.out]; omega, HR2.out⟩
                  · have hsz : (su ++ (⟨#[48, 49, 50, 51, 52, 53, 54, 55, 56, 57, 65, 66, 67, 68, 69, 70]⟩ : ByteArray).extract d (d + 1)).size = su.size + 1 := by rw [ByteArray.size_append, h2]
                    have HSZ := Lib.hid hsz
                    clear hsz
                    go_wp2_with fail
                    go_roundg 2
                    case measure => exact hjg
                    case rel => exact ⟨_, 0, 1, rfl, rfl, by omega, by omega, by rw [HSZ.out]; omega, HR2.out⟩
                · have hb := nib (g) (by omega)
                  have hd : (g) % 16 < 16 := Nat.mod_lt _ (by omega)
                  have hcn : ((g : Nat) : Int) = (g : Int) := by omega
                  rw [hcn] at hb
                  have h1 := hexs_size ((g) % 16) hd
                  have h2 := hexS_size ((g) % 16) hd
                  generalize (g) % 16 = d at hb hd h1 h2
                  have d0 : (0 : Int) ≤ (d : Int) := by omega
                  have d1 : (d : Int) + 1 ≤ 16 := by omega
                  have d2 : (d : Int) ≤ (d : Int) + 1 := by omega
                  clear hcn
                  cases upper
                  · have hsz : (su ++ (⟨#[48, 49, 50, 51, 52, 53, 54, 55, 56, 57, 97, 98, 99, 100, 101, 102]⟩ : ByteArray).extract d (d + 1)).size = su.size + 1 := by rw [ByteArray.size_append, h1]
                    have HSZ := Lib.hid hsz
                    clear hsz
                    go_wp2_with fail
                    go_roundg 1
                    case measure => exact hjg
                    case rel => exact ⟨_, -4, 0, rfl, rfl, by omega, by omega, by rw [HSZ.out]; omega, HR2.out⟩
                  · have hsz : (su ++ (⟨#[48, 49, 50, 51, 52, 53, 54, 55, 56, 57, 65, 66, 67, 68, 69, 70]⟩ : ByteArray).extract d (d + 1)).size = su.size + 1 := by rw [ByteArray.size_append, h2]
                    have HSZ := Lib.hid hsz
                    clear hsz
                    go_wp2_with fail
                    go_roundg 1
                    case measure => exact hjg
                    case rel => exact ⟨_, -4, 0, rfl, rfl, by omega, by omega, by rw [HSZ.out]; omega, HR2.out⟩
                · have HF2 := Lib.hid HR2.out
                  go_wp2_with fail
                  go_roundg (nn - i)
                  case measure => exact hig
                  case rel => exact ⟨i + 1, su, rfl, by go_num, by omega, by omega, by omega, HF2.out⟩
            · have hii := hci rfl
              clear hci
              obtain ⟨gk, hgk⟩ : ∃ x, gs[i + 1]? = some x := ⟨_, List.getElem?_eq_getElem (by rw [HG.out.2.2.1]; omega)⟩
              have hgk6 := HG.out.2.2.2 gk (List.mem_of_getElem? hgk)
              have HC1 : Hid (∀ w', Fr No w w' → w'.cell? ⟨ab, ao + (i + 1), none⟩ = some (.int .u16 gk)) := fun w' hf => HC.out (i + 1) gk w' hf hgk
              obtain ⟨z0, d0⟩ := HDC.out (g / 256) (by omega)
              obtain ⟨z1, d1⟩ := HDC.out (g % 256) (by omega)
              obtain ⟨z2, d2⟩ := HDC.out (gk / 256) (by omega)
              obtain ⟨z3, d3⟩ := HDC.out (gk % 256) (by omega)
              have m0 : bits .and .u16 (g : Int) 255 = ((g % 256 : Nat) : Int) := byte_lo g hg6
              have m1 : bits .and .u16 (gk : Int) 255 = ((gk % 256 : Nat) : Int) := byte_lo gk hgk6
              have n0 : ((g / 256 : Nat) : Int) = (g : Int) / 256 := by omega
              have n1 : ((gk / 256 : Nat) : Int) = (gk : Int) / 256 := by omega
              have v0 : IntKind.i64.wrap ((g : Int) / 256) = (g : Int) / 256 := wraps_i64_63 _ (by omega) (by omega)
              have v1 : IntKind.i64.wrap ((gk : Int) / 256) = (gk : Int) / 256 := wraps_i64_63 _ (by omega) (by omega)
              rw [n0] at d0
              rw [n1] at d2
              obtain ⟨r0, hr0⟩ : ∃ r, g % 256 = r := ⟨_, rfl⟩
              obtain ⟨r1, hr1⟩ : ∃ r, gk % 256 = r := ⟨_, rfl⟩
              rw [hr0] at m0 d1 z1
              rw [hr1] at m1 d3 z3
              have v2 : IntKind.i64.wrap (r0 : Int) = (r0 : Int) := wraps_i64_63 _ (by omega) (by omega)
              have v3 : IntKind.i64.wrap (r1 : Int) = (r1 : Int) := wraps_i64_63 _ (by omega) (by omega)
              have vi : IntKind.i64.wrap ((i : Int) + 1) = (i : Int) + 1 := wraps_i64_63 _ (by omega) (by omega)
              have vj : (0 : Int) ≤ (i : Int) + 1 := by omega
              have vk : (i : Int) + 1 < (n : Int) := by omega
              clear n0 n1 hr0 hr1
              generalize str (decN (g / 256)) = s0 at z0 d0
              generalize str (decN r0) = s1 at z1 d1
              generalize str (decN (gk / 256)) = s2 at z2 d2
              generalize str (decN r1) = s3 at z3 d3
              have HDD := Lib.hid (And.intro d0 (And.intro d1 (And.intro d2 d3)))
              clear d0 d1 d2 d3
              have g1' : ¬ 9223372036854775807 < s0.size + 1 := by omega
              have g2' : ¬ 9223372036854775807 < s0.size + 1 + s1.size := by omega
              have g3' : ¬ 9223372036854775807 < s0.size + 1 + s1.size + 1 := by omega
              have g4' : ¬ 9223372036854775807 < s0.size + 1 + s1.size + 1 + s2.size := by omega
              have g5' : ¬ 9223372036854775807 < s0.size + 1 + s1.size + 1 + s2.size + 1 := by omega
              have g6' : ¬ 9223372036854775807 < s0.size + 1 + s1.size + 1 + s2.size + 1 + s3.size := by omega
              have g7' : ¬ 9223372036854775807 < st2.size + (s0.size + 1 + s1.size + 1 + s2.size + 1 + s3.size) := by omega
              clear hii
              go_wp2_with fail
              have f0 : Fr No w wr.drew := HRR.out.trans (Fr.drew No _)
              have mm0 := HC1.out _ f0
              go_region_held3 (fun w' => w'.cell? ⟨ab, ao + (i + 1), none⟩ = some (.int .u16 gk)) (assumption) (first
                | (go_at_call 24; with_reducible refine (at_prog HP.out (HDD.out.1 wr.drew)).mono ?_; rintro e y0 ⟨rfl, h0⟩; have f1 := f0.trans h0; have mm1 := HC1.out _ f1; clear h0)
                | (go_at_call 24; with_reducible refine (at_prog HP.out (HDD.out.2.1 y0)).mono ?_; rintro e y1 ⟨rfl, h0⟩; have f2 := f1.trans h0; have mm2 := HC1.out _ f2; clear h0)
                | (go_at_call 24; with_reducible refine (at_prog HP.out (HDD.out.2.2.1 y1)).mono ?_; rintro e y2 ⟨rfl, h0⟩; have f3 := f2.trans h0; have mm3 := HC1.out _ f3; clear h0)
                | (go_at_call 24; with_reducible refine (at_prog HP.out (HDD.out.2.2.2 y2)).mono ?_; rintro e y3 ⟨rfl, h0⟩; have f4 := f3.trans h0; have mm4 := HC1.out _ f4; clear h0))
              go_wp2_with fail
              go_meet
              refine ⟨_, rfl, ?_, f4⟩
              simp only [ByteArray.size_append]
              show st2.size + (s0.size + 1 + s1.size + 1 + s2.size + 1 + s3.size) ≤ 400
              omega
  case rest =>
    obtain ⟨st, rfl, hst, HFR⟩ := hcut
    have hcase3 : ((nn : Int) ≤ k ∧ k < 10) ∨ ¬ (nn : Int) ≤ k ∨ ((nn : Int) ≤ k ∧ ¬ k < 10) := by omega
    have zf : ¬ 9223372036854775807 < st.size + 2 := by omega
    rcases hcase3 with ⟨e1, e2⟩ | e1 | ⟨e1, e2⟩
    · obtain ⟨sf, hsf⟩ : ∃ sf, st ++ ⟨#[58, 58]⟩ = sf := ⟨_, rfl⟩
      have hsz : sf.size < 2147483648 := by rw [← hsf, ByteArray.size_append]; show st.size + 2 < _; omega
      obtain ⟨A, b, hA17, hA1, hE, hP1, hP2⟩ := HPR.out sf hsz
      have HAA := Lib.hid (And.intro hA17 (And.intro hA1 (And.intro hP1 hP2)))
      have hAk : A.size = k24 := by rw [HK24.out]; exact hA17
      clear hA17 hA1 hP1 hP2
      go_wp2_with fail
      refine (at_prog HP.out (HAA.out.2.2.1 _ HFR.out)).mono ?_
      rintro e w2 ⟨rfl, hf2⟩
      obtain ⟨w3, hs3, hb3, hf3⟩ := put_new PD w2 (A := A) HZ.out HAA.out.1 HAA.out.2.1
      have H3 := Lib.hid (And.intro ((HFR.out.trans hf2).trans hf3) hb3)
      clear hf2 hf3 hb3
      go_wp2_with fail
      clear hs3
      refine (at_prog HP.out (HAA.out.2.2.2 _)).mono ?_
      rintro e w4 ⟨rfl, hf4⟩
      obtain ⟨w5, hs5, hb5, hf5⟩ := put_new PD w4 (A := A) HZ.out HAA.out.1 HAA.out.2.1
      have H5 := Lib.hid (And.intro (H3.out.1.trans (hf4.trans hf5)) (And.intro hb5 ((hf4.trans hf5).keep H3.out.2)))
      clear hf4 hf5 hb5
      go_wp2_with fail
      clear hs5
      refine (at_prog HP.out (HAW.out w5 H5.out.1)).mono ?_
      rintro e w6 ⟨rfl, hf6⟩
      have hl1 : Sem.run PD (loadCellsFrom ⟨w2.heap.size, 0, none⟩ 0 k24 #[]) w6 = .ok A w6 := by rw [HK24.out]; exact load_block (hf6.keep H5.out.2.2) HAA.out.1 (fun j v hv => by simpa using hv)
      have hl2 : Sem.run PD (loadCellsFrom ⟨w4.heap.size, 0, none⟩ 0 k24 #[]) w6 = .ok A w6 := by rw [HK24.out]; exact load_block (hf6.keep H5.out.2.1) HAA.out.1 (fun j v hv => by simpa using hv)
      have H6 := Lib.hid (H5.out.1.trans hf6)
      clear hf6
      go_wp2_with fail
      go_ret
      exact ⟨rfl, H6.out⟩
    · have hsz : st.size < 2147483648 := by omega
      obtain ⟨A, b, hA17, hA1, hE, hP1, hP2⟩ := HPR.out st hsz
      have HAA := Lib.hid (And.intro hA17 (And.intro hA1 (And.intro hP1 hP2)))
      have hAk : A.size = k24 := by rw [HK24.out]; exact hA17
      clear hA17 hA1 hP1 hP2
      go_wp2_with fail
      refine (at_prog HP.out (HAA.out.2.2.1 _ HFR.out)).mono ?_
      rintro e w2 ⟨rfl, hf2⟩
      obtain ⟨w3, hs3, hb3, hf3⟩ := put_new PD w2 (A := A) HZ.out HAA.out.1 HAA.out.2.1
      have H3 := Lib.hid (And.intro ((HFR.out.trans hf2).trans hf3) hb3)
      clear hf2 hf3 hb3
      go_wp2_with fail
      clear hs3
      refine (at_prog HP.out (HAA.out.2.2.2 _)).mono ?_
      rintro e w4 ⟨rfl, hf4⟩
      obtain ⟨w5, hs5, hb5, hf5⟩ := put_new PD w4 (A := A) HZ.out HAA.out.1 HAA.out.2.1
      have H5 := Lib.hid (And.intro (H3.out.1.trans (hf4.trans hf5)) (And.intro hb5 ((hf4.trans hf5).keep H3.out.2)))
      clear hf4 hf5 hb5
      go_wp2_with fail
      clear hs5
      refine (at_prog HP.out (HAW.out w5 H5.out.1)).mono ?_
      rintro e w6 ⟨rfl, hf6⟩
      have hl1 : Sem.run PD (loadCellsFrom ⟨w2.heap.size, 0, none⟩ 0 k24 #[]) w6 = .ok A w6 := by rw [HK24.out]; exact load_block (hf6.keep H5.out.2.2) HAA.out.1 (fun j v hv => by simpa using hv)
      have hl2 : Sem.run PD (loadCellsFrom ⟨w4.heap.size, 0, none⟩ 0 k24 #[]) w6 = .ok A w6 := by rw [HK24.out]; exact load_block (hf6.keep H5.out.2.1) HAA.out.1 (fun j v hv => by simpa using hv)
      have H6 := Lib.hid (H5.out.1.trans hf6)
      clear hf6
      go_wp2_with fail
      go_ret
      exact ⟨rfl, H6.out⟩
    · have hsz : st.size < 2147483648 := by omega
      obtain ⟨A, b, hA17, hA1, hE, hP1, hP2⟩ := HPR.out st hsz
      have HAA := Lib.hid (And.intro hA17 (And.intro hA1 (And.intro hP1 hP2)))
      have hAk : A.size = k24 := by rw [HK24.out]; exact hA17
      clear hA17 hA1 hP1 hP2
      go_wp2_with fail
      refine (at_prog HP.out (HAA.out.2.2.1 _ HFR.out)).mono ?_
      rintro e w2 ⟨rfl, hf2⟩
      obtain ⟨w3, hs3, hb3, hf3⟩ := put_new PD w2 (A := A) HZ.out HAA.out.1 HAA.out.2.1
      have H3 := Lib.hid (And.intro ((HFR.out.trans hf2).trans hf3) hb3)
      clear hf2 hf3 hb3
      go_wp2_with fail
      clear hs3
      refine (at_prog HP.out (HAA.out.2.2.2 _)).mono ?_
      rintro e w4 ⟨rfl, hf4⟩
      obtain ⟨w5, hs5, hb5, hf5⟩ := put_new PD w4 (A := A) HZ.out HAA.out.1 HAA.out.2.1
      have H5 := Lib.hid (And.intro (H3.out.1.trans (hf4.trans hf5)) (And.intro hb5 ((hf4.trans hf5).keep H3.out.2)))
      clear hf4 hf5 hb5
      go_wp2_with fail
      clear hs5
      refine (at_prog HP.out (HAW.out w5 H5.out.1)).mono ?_
      rintro e w6 ⟨rfl, hf6⟩
      have hl1 : Sem.run PD (loadCellsFrom ⟨w2.heap.size, 0, none⟩ 0 k24 #[]) w6 = .ok A w6 := by rw [HK24.out]; exact load_block (hf6.keep H5.out.2.2) HAA.out.1 (fun j v hv => by simpa using hv)
      have hl2 : Sem.run PD (loadCellsFrom ⟨w4.heap.size, 0, none⟩ 0 k24 #[]) w6 = .ok A w6 := by rw [HK24.out]; exact load_block (hf6.keep H5.out.2.1) HAA.out.1 (fun j v hv => by simpa using hv)
      have H6 := Lib.hid (H5.out.1.trans hf6)
      clear hf6
      go_wp2_with fail
      go_ret
      exact ⟨rfl, H6.out⟩
end Go.Proofs.YtdnfmilihfkhmaaDoor
