/-
  CONTRACTS of strconv.FormatUint to the base 16, over this seat's translation: what each call returns.
  Conditions: the number is below 65536; the package variables are as Glob says.
-/
import Derived.Test.YtdnfmilihfkhmaaDoorGr
import Derived.Laws.BytesArg
import Derived.Laws.BitsLemmas
namespace Go.Proofs.YtdnfmilihfkhmaaDoor
open Go.ChangeShapes Go.WideShapes Go.ChangeAt Go.RowKit
set_option linter.unusedVariables false

/-- A hexadecimal digit. -/
def hexD (d : Nat) : Nat := if d < 10 then 48 + d else 87 + d
/-- A number's hexadecimal digits. -/
def hexN (n : Nat) : List Nat := if h : n < 16 then [hexD n] else hexN (n / 16) ++ [hexD (n % 16)]
termination_by n
decreasing_by omega

/-- Numbers as a string. -/
def str (xs : List Nat) : ByteArray := ⟨(xs.map UInt8.ofNat).toArray⟩

theorem tz16 (w : World) (h : Glob w) : Calls Tryd.prog 125 #[.int .u64 16] w fun e w' => e = .returned (.int .i64 4) ∧ w' = w := by
  have c := h.tz 15 _ rfl 4 rfl
  have e1 : bits BinOp.and IntKind.u64 16 (IntKind.u64.wrap (-16)) = 16 := by decide
  have e2 : IntKind.u64.wrap (16 * 285870213051353865) = 4573923408821661840 := by decide
  go_enter Tryd.func125, Tryd.ntmps125
  go_wp2
  go_ret
  exact ⟨rfl, rfl⟩

theorem pow16 (w : World) : Calls Tryd.prog 124 #[.int .i64 16] w fun e w' => e = .returned (.bool true) ∧ w' = w := by
  go_enter Tryd.func124, Tryd.ntmps124
  go_wp2
  go_ret
  exact ⟨rfl, rfl⟩

theorem hexN_small {n : Nat} (h : n < 16) : hexN n = [hexD n] := by rw [hexN, dif_pos h]
theorem hexN_big {n : Nat} (h : 16 ≤ n) : hexN n = hexN (n / 16) ++ [hexD (n % 16)] := by rw [hexN, dif_neg (by omega)]
theorem hexD_lt {n : Nat} (h : n < 16) : hexD n < 256 := by unfold hexD; split <;> omega

/-- The row of digits while they are written: the last ones are there. -/
def Tail (L D : List Nat) (i : Nat) : Prop := L.length = 65 ∧ L.drop i = D

theorem Tail.set {L D : List Nat} {i d : Nat} (h : Tail L D (i + 1)) (hi : i < 65) : Tail (L.set i d) (d :: D) i := by
  refine ⟨by rw [List.length_set]; exact h.1, ?_⟩
  have hl : i < (L.set i d).length := by rw [List.length_set, h.1]; exact hi
  rw [List.drop_eq_getElem_cons hl, List.getElem_set_self, List.drop_set_of_lt (by omega), h.2]

theorem and15 {x : Nat} (h : x < 65536) : bits .and .u64 (x : Int) 15 = ((x % 16 : Nat) : Int) := by
  have h1 := bits_mask .u64 64 (by decide) (fun n h0 h1 => by rw [show IntKind.u64.wrap n = n % 18446744073709551616 by simp [IntKind.wrap, IntKind.bits, IntKind.signed]]; omega) 4 (by decide) (x : Int) (by omega) (by omega)
  have e : ((2 : Int) ^ 4 - 1) = 15 := by decide
  rw [e] at h1
  rw [h1]
  omega

/-- The digits that the program looks up. -/
def digs : ByteArray := ⟨#[48, 49, 50, 51, 52, 53, 54, 55, 56, 57, 97, 98, 99, 100, 101, 102, 103, 104, 105, 106, 107, 108, 109, 110, 111, 112, 113, 114, 115, 116, 117, 118, 119, 120, 121, 122]⟩

theorem digs_get {d : Nat} (h : d < 16) (h' : d < digs.size) : digs[d].toNat = hexD d := by
  have : d = 0 ∨ d = 1 ∨ d = 2 ∨ d = 3 ∨ d = 4 ∨ d = 5 ∨ d = 6 ∨ d = 7 ∨ d = 8 ∨ d = 9 ∨ d = 10 ∨ d = 11 ∨ d = 12 ∨ d = 13 ∨ d = 14 ∨ d = 15 := by omega
  rcases this with rfl | rfl | rfl | rfl | rfl | rfl | rfl | rfl | rfl | rfl | rfl | rfl | rfl | rfl | rfl | rfl <;> rfl

theorem strOfNums_str (D : List Nat) : strOfNums (D.map fun (x : Nat) => (x : Int)) = str D := by
  rw [strOfNums, List.map_map]; rfl

theorem str_conv {w : World} {n j : Nat} {L D : List Nat} {t : TypeId} {fr : Nat × Nat} (hb : w.heap[n]? = some (.cells (nums .u8 L).toArray t fr)) (hT : Tail L D j) (m c : Nat) (hm : D.length = m) : (convert 34 9 (.slice (some ⟨n, j, none⟩) m c)).run Tryd.prog w = .ok (.string (str D)) w := by
  rw [← strOfNums_str]
  refine run_convert_bytes_arg w 34 5 Tryd.underlying34 Tryd.underlying5 n j m c _ (by rw [List.length_map]; exact hm) ?_ 9 Tryd.underlying9
  intro i hi
  have hi' : i < D.length := by omega
  have h1 : L[j + i]? = some D[i] := by
    have := List.getElem?_eq_getElem hi'
    rw [← this, ← hT.2, List.getElem?_drop]
  rw [cell_of_row _ _ _ _ _ _ hb]
  have h2 := nums_get (k := .u8) h1
  simp [List.getD, List.getElem?_eq_getElem hi'] at h2 ⊢
  exact h2

set_option maxHeartbeats 2000000 in
set_option maxRecDepth 100000 in
theorem bits16 (u : Nat) (hu : u < 65536) (w : World) (hG : Glob w) :
    Calls Tryd.prog 110 #[.slice none 0 0, .int .u64 u, .int .i64 16, .bool false, .bool false] w fun e w' => e = .returned (.tuple #[.slice none 0 0, .string (str (hexN u))]) ∧ Fr No w w' := by
  go_enter Tryd.func110, Tryd.ntmps110
  go_wp2_with (first | (go_at_call 124; refine (pow16 _).mono ?_; rintro e w1 ⟨rfl, rfl⟩) | (go_at_call 125; refine (tz16 _ (hG.fr (Fr.alloc No _ _))).mono ?_; rintro e w1 ⟨rfl, rfl⟩))
  have hz : Tryd.zeroCells129 = (nums .u8 (List.replicate 65 0)).toArray := by kernel_rfl
  have hb : (w.alloc (.cells Tryd.zeroCells129 129)).heap[w.heap.size]? = some (.cells (nums .u8 (List.replicate 65 0)).toArray 129 (0, 0)) := by rw [← hz]; exact heap_alloc_new w _
  have hF := Fr.alloc No w (.cells Tryd.zeroCells129 129)
  generalize w.alloc (.cells Tryd.zeroCells129 129) = w1 at hb hF ⊢
  obtain ⟨n, hn⟩ : ∃ n, w.heap.size = n := ⟨_, rfl⟩
  rw [hn] at hb ⊢
  have HN := Lib.hid (And.intro hn (And.intro hF hb))
  clear hn hF hb hz
  go_loopg [1, 13] 65537 (fun g s1 s13 wr => ∃ v i : Nat, s1 = .int .u64 v ∧ s13 = .int .i64 i ∧ v < g ∧ v < 65536 ∧ Hid (∃ L D, i + D.length = 65 ∧ ((i = 65 ∧ v < 65536) ∨ (i = 64 ∧ v < 4096) ∨ (i = 63 ∧ v < 256) ∨ (i = 62 ∧ v < 16)) ∧ hexN v ++ D = hexN u ∧ Tail L D i ∧ (∀ x ∈ D, x < 256) ∧ wr.heap[n]? = some (.cells (nums .u8 L).toArray 129 (0, 0)) ∧ Fr (fun k => k = n) w1 wr))
  case atStart => exact ⟨u, 65, rfl, rfl, by omega, hu, List.replicate 65 0, [], rfl, .inl ⟨rfl, hu⟩, by simp, ⟨rfl, rfl⟩, by simp, HN.out.2.2, Fr.refl _ _⟩
  case round =>
    obtain ⟨v, i, rfl, rfl, hvg, hv6, HR⟩ := hrel
    obtain ⟨L, D, hiD, hcase, hhex, hT, hD, hblk, hfr⟩ := HR.out
    have hi62 : 62 ≤ i ∧ i ≤ 65 := by omega
    obtain ⟨j, rfl⟩ : ∃ j, i = j + 1 := ⟨i - 1, by omega⟩
    obtain ⟨z, hz⟩ : ∃ z, L[j]? = some z := ⟨_, List.getElem?_eq_getElem (by rw [hT.1]; omega)⟩
    have k1 : wr.cell? ⟨n, j, none⟩ = some (.int .u8 z) := by rw [cell_of_row _ _ _ _ _ _ hblk]; simpa using nums_get hz
    have f1 := frozen_of_row wr n j _ _ hblk
    have q1 : (0 : Int) ≤ (j : Int) := by omega
    have q2 : (j : Int) < 65 := by omega
    have q3 : ((j : Nat) : Int) + 1 - 1 = (j : Int) := by omega
    by_cases h16 : 16 ≤ v
    · have p1 : (16 : Int) ≤ (v : Int) := by omega
      have ha := and15 hv6
      have H := Lib.hid (And.intro hiD (And.intro hcase (And.intro hhex (And.intro hT (And.intro hD (And.intro hblk hfr))))))
      have q4 : (0 : Int) ≤ ((v % 16 : Nat) : Int) := by omega
      have q5 : ((v % 16 : Nat) : Int) < 36 := by omega
      clear hiD hcase hhex hT hD hblk hfr HR hz
      have hd16 : v % 16 < 16 := by omega
      generalize hd : v % 16 = d at ha q4 q5 hd16
      go_wp2_with fail
      go_roundg v
      case measure => exact hvg
      case rel =>
        obtain ⟨hiD, hcase, hhex, hT, hD, hblk, hfr⟩ := H.out
        have e : ∀ h', ((⟨#[48, 49, 50, 51, 52, 53, 54, 55, 56, 57, 97, 98, 99, 100, 101, 102, 103, 104, 105, 106, 107, 108, 109, 110, 111, 112, 113, 114, 115, 116, 117, 118, 119, 120, 121, 122]⟩ : ByteArray)[d]'h').toNat = hexD d := fun h' => digs_get hd16 h'
        rw [e]
        refine ⟨v / 16, j, by go_num, rfl, by omega, by omega, L.set j (hexD d), hexD d :: D, ?_, ?_, ?_, hT.set (by omega), ?_, nums_set hblk, ?_⟩
        · simp; omega
        · omega
        · rw [← hhex, hexN_big h16, hd]; simp
        · intro x hx
          rcases List.mem_cons.1 hx with rfl | hx
          · exact hexD_lt hd16
          · exact hD x hx
        · exact hfr.trans (Fr.setCell (fun k => k = n) _ _ _ rfl)
    · have p1 : ¬ (16 : Int) ≤ (v : Int) := by omega
      have hv16 : v < 16 := by omega
      have q4 : (0 : Int) ≤ (v : Int) := by omega
      have q5 : (v : Int) < 36 := by omega
      have hT' := hT.set (d := hexD v) (by omega : j < 65)
      have hb' := nums_set (i := j) (x := hexD v) hblk
      have e : ∀ h', ((⟨#[48, 49, 50, 51, 52, 53, 54, 55, 56, 57, 97, 98, 99, 100, 101, 102, 103, 104, 105, 106, 107, 108, 109, 110, 111, 112, 113, 114, 115, 116, 117, 118, 119, 120, 121, 122]⟩ : ByteArray)[v]'h').toNat = hexD v := fun h' => digs_get hv16 h'
      have hcv := str_conv hb' hT' (65 - j) (65 - j) (by simp; omega)
      have HF : Hid (Fr No w (wr.setCell ⟨n, j, none⟩ (.int .u8 (hexD v : Nat)))) := HN.out.2.1.ofNew (hfr.trans (Fr.setCell (fun k => k = n) _ _ _ rfl)) fun k hk => .inr (by rw [HN.out.1, hk]; exact Nat.le_refl _)
      have HV : Hid (str (hexD v :: D) = str (hexN u)) := by
        show _ = _
        rw [← hhex, hexN_small hv16]; rfl
      have q6 : (j : Int) ≤ 65 := by omega
      clear hiD hcase hhex hT hD hblk hfr HR hz hT' hb'
      generalize hexD v = dv at e hcv HF HV
      go_wp2_with fail
      go_ret2
      exact ⟨by rw [← HV.out]; rfl, HF.out⟩

set_option maxHeartbeats 2000000 in
set_option maxRecDepth 100000 in
theorem formatUint (u : Nat) (hu : u < 65536) (w : World) (hG : Glob w) :
    Calls Tryd.prog 83 #[.int .u64 u, .int .i64 16] w fun e w' => e = .returned (.string (str (hexN u))) ∧ Fr No w w' := by
  go_enter Tryd.func83, Tryd.ntmps83
  go_wp2_with (first | (go_at_call 97; go_in) | (go_at_call 110; refine (bits16 u hu _ hG).mono ?_; rintro e w1 ⟨rfl, hf⟩; have HF := Lib.hid hf; clear hf))
  go_ret
  exact ⟨rfl, HF.out⟩
end Go.Proofs.YtdnfmilihfkhmaaDoor
