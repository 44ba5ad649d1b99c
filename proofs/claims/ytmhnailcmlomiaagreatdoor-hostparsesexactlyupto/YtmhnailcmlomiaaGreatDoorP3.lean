/-
  CONTRACTS of strconv.ParseUint to the base 16 and of parseGroup, over this seat's translation: what each call returns.
  Conditions: the package variables are as Glob says.
-/
import Derived.Test.YtmhnailcmlomiaaGreatDoorP1
import Derived.Shelf.Pu.ToError
import Derived.Shelf.Pu.Lower
import Derived.Shelf.Pu.ParseUintEmpty
namespace Go.Proofs.YtmhnailcmlomiaaGreatDoor
open Go.ChangeShapes Go.WideShapes Go.ChangeAt Go.RowKit
set_option linter.unusedVariables false

theorem bs_toList (l : List UInt8) : (bs l).toList = l := by rw [ByteArray.toList_eq]; rfl
theorem bs_eq (l m : List UInt8) : ((bs l).toList == (bs m).toList) = decide (l = m) := by
  rw [bs_toList, bs_toList, Bool.eq_iff_iff]
  simp

def low (n : Nat) : Nat := n ||| 32

theorem low_bits {n : Nat} (h : n < 256) : bits .or .u8 (n : Int) 32 = ((low n : Nat) : Int) :=
  (bits_nat .u8 8 (by decide) wraps_u8 n 32 (by omega) (by omega)).2

/-- The value of a sign as the program finds it. -/
def digN (n : Nat) : Option Nat := if 48 ≤ n ∧ n ≤ 57 then some (n - 48) else if 97 ≤ low n ∧ low n ≤ 122 then (if low n - 87 < 16 then some (low n - 87) else none) else none

set_option maxRecDepth 100000 in
theorem digN_all : ∀ n, n < 256 → digN n = (if 48 ≤ n ∧ n ≤ 57 then some (n - 48) else if 97 ≤ n ∧ n ≤ 102 then some (n - 87) else if 65 ≤ n ∧ n ≤ 70 then some (n - 55) else none) ∧ low n < 256 := by decide +kernel

theorem hexDig_digN (c : UInt8) : hexDig c = digN c.toNat := (digN_all c.toNat c.toNat_lt).1.symm

theorem hexGo_step {l : List UInt8} {i acc : Nat} {c : UInt8} (h : l[i]? = some c) : hexGo acc (l.drop i) = match hexDig c with
    | some d => hexGo (acc * 16 + d) (l.drop (i + 1))
    | none => none := by
  obtain ⟨h1, e1⟩ := List.getElem?_eq_some_iff.1 h
  rw [List.drop_eq_getElem_cons h1, e1]
  rfl

/-- The answer of internal/strconv.ParseUint. -/
def ans16 : Option Nat → Value
  | some x => .tuple #[.int .u64 (x : Nat), .nilIface]
  | none => .tuple #[.int .u64 0, .iface 127 (.int .i64 2)]

theorem pow16_le {i : Nat} (h : i ≤ 3) : 16 ^ i * 16 ≤ 65536 := by
  have : i = 0 ∨ i = 1 ∨ i = 2 ∨ i = 3 := by omega
  rcases this with rfl | rfl | rfl | rfl <;> decide

set_option maxHeartbeats 4000000 in
set_option maxRecDepth 100000 in
theorem puint16 (l : List UInt8) (hl1 : l ≠ []) (hl4 : l.length ≤ 4) (w : World) :
    Calls Tryz.prog 147 #[.string (bs l), .int .i64 16, .int .i64 16] w fun e w' => e = .returned (ans16 (hexGo 0 l)) ∧ Fr No w w' := by
  have hconv : Sem.run Tryz.prog (convert 9 22 (.string (bs l))) w = .ok (.slice (some ⟨w.heap.size, 0, none⟩) l.length (grownCap w l.length 0 5)) (Lib.bytesWorld w 5 (bs l)) := Lib.run_convert_string_bytes w 9 22 5 (bs l) Tryz.underlying9 Tryz.underlying22 Tryz.underlying5
  have hcell : ∀ i c, l[i]? = some c → (Lib.bytesWorld w 5 (bs l)).cell? ⟨w.heap.size, i, none⟩ = some (.int .u8 (c.toNat : Int)) := fun i c hc => by
    have hi := (List.getElem?_eq_some_iff.1 hc).1
    rw [Lib.bytesWorld_cell w 5 (bs l) i hi, bs_list, List.getD, hc]
    rfl
  have hF := Fr.bytesWorld w 5 (bs l)
  have hne : (bs l).toList.isEmpty = false := by
    rw [bs_toList]
    cases l with
    | nil => exact absurd rfl hl1
    | cons x r => rfl
  generalize Lib.bytesWorld w 5 (bs l) = w1 at hconv hcell hF
  generalize grownCap w l.length 0 5 = cap at hconv
  generalize hs : bs l = s at hconv hne
  have HS := Lib.hid hs
  have HF := Lib.hid (And.intro hF hcell)
  clear hF hcell hs hl1
  obtain ⟨nb, hnb⟩ : ∃ nb, w.heap.size = nb := ⟨_, rfl⟩
  obtain ⟨ln, hln⟩ : ∃ ln, l.length = ln := ⟨_, rfl⟩
  rw [hnb] at hconv HF
  rw [hln] at hconv hl4
  have HL := Lib.hid hln
  clear hnb hln
  go_enter Tryz.func147, Tryz.ntmps147
  go_wp2_with fail
  clear hconv hne
  go_loopg [12, 13, 101] (ln + 1) (fun g s12 s13 s101 wr => ∃ (i : Nat) (a : Int), s12 = .bool false ∧ s13 = .int .u64 a ∧ s101 = .int .i64 i ∧ i ≤ ln ∧ ln - i < g ∧ Hid (wr = w1 ∧ ∃ acc : Nat, a = acc ∧ acc < 16 ^ i ∧ hexGo 0 l = hexGo acc (l.drop i)))
  case atStart => exact ⟨0, 0, rfl, rfl, by go_num, by omega, by omega, rfl, 0, rfl, by decide, rfl⟩
  case round =>
    obtain ⟨i, a, rfl, rfl, rfl, hin, hig, HR⟩ := hrel
    obtain ⟨hw, acc, ha, hai, hgo⟩ := HR.out
    have hw' := hw.symm
    subst hw'
    clear hw HR
    by_cases hi : i = ln
    · subst hi
      rw [List.drop_of_length_le (by rw [HL.out]; exact Nat.le_refl _)] at hgo
      have HV := Lib.hid (And.intro hgo ha)
      clear hgo hai hin hl4 hig ha
      go_wp2_with fail
      go_ret2
      exact ⟨by rw [HV.out.1, HV.out.2]; rfl, HF.out.1⟩
    · obtain ⟨c, hc⟩ : ∃ c, l[i]? = some c := ⟨_, List.getElem?_eq_getElem (by rw [HL.out]; omega)⟩
      have c1 := HF.out.2 i c hc
      have hstep := hgo.trans (hexGo_step hc)
      rw [hexDig_digN] at hstep
      have hb1 : 16 ^ i * 16 ≤ 65536 := pow16_le (by omega)
      have hc256 : c.toNat < 256 := c.toNat_lt
      have hlb := low_bits hc256
      have hlow256 := (digN_all _ hc256).2
      obtain ⟨x, hx⟩ : ∃ x : Int, ((c.toNat : Nat) : Int) = x := ⟨_, rfl⟩
      rw [hx] at c1 hlb
      generalize c.toNat = n at hstep hc256 hlb hlow256 hx
      have x0 : 0 ≤ x := by omega
      have x1 : x ≤ 255 := by omega
      have a0 : 0 ≤ a := by omega
      have a1 : a ≤ 4095 := by omega
      have q1 : (0 : Int) ≤ (i : Int) := by omega
      have q2 : (i : Int) < (ln : Int) := by omega
      have HS1 : Hid (hexGo 0 l = (match digN n with
          | some d => hexGo (acc * 16 + d) (l.drop (i + 1))
          | none => none) ∧ acc < 16 ^ i ∧ ((n : Nat) : Int) = x ∧ a = acc ∧ i ≤ ln ∧ ln - i < gk ∧ ln ≤ 4) := ⟨hstep, hai, hx, ha, hin, hig, hl4⟩
      clear hstep hai hb1 hgo hc hin hig hl4 ha
      by_cases hd : 48 ≤ x ∧ x ≤ 57
      · obtain ⟨p1, p2⟩ := hd
        have hdig : digN n = some (n - 48) := by rw [digN, if_pos (by omega)]
        have HD := Lib.hid hdig
        have iov : a * 16 + (x - 48) ≤ 65535 := by omega
        clear hdig hlb hlow256 hc256 hx
        go_wp2_with fail
        go_roundg (ln - i)
        case measure => exact HS1.out.2.2.2.2.2.1
        case rel =>
          obtain ⟨h1, h2, h3, h4, h5, h6, h7⟩ := HS1.out
          refine ⟨i + 1, a * 16 + (x - 48), rfl, rfl, congrArg (Value.int .i64) (by unfold wrap64; omega), by omega, by omega, rfl, acc * 16 + (n - 48), by omega, ?_, ?_⟩
          · rw [Nat.pow_succ]; omega
          · rw [h1, HD.out]
      · obtain ⟨y, hy⟩ : ∃ y : Int, ((low n : Nat) : Int) = y := ⟨_, rfl⟩
        rw [hy] at hlb
        have HY := Lib.hid hy
        have y0 : 0 ≤ y := by omega
        have y1 : y ≤ 255 := by omega
        by_cases hl : 97 ≤ y ∧ y ≤ 122
        · obtain ⟨l1, l2⟩ := hl
          have n95 : ¬ x = 95 := fun e => by
            have : n = 95 := by omega
            subst this
            have : low 95 = 127 := by decide
            omega
          by_cases h16 : y ≤ 102
          · have hdig : digN n = some (low n - 87) := by rw [digN, if_neg (by omega), if_pos (by omega), if_pos (by omega)]
            by_cases p1 : 48 ≤ x
            · have p2 : ¬ x ≤ 57 := fun e => hd ⟨p1, e⟩
              clear hd
              have HD := Lib.hid hdig
              have iov : a * 16 + (y - 97 + 10) ≤ 65535 := by omega
              clear hdig hlow256 hc256 hx
              go_wp2_with (first | (go_at_call 154; refine (AnyPu.internal_strconv_lower (ρ := Tryz.laysPu14_ren) { Tryz.laysPu14 with } _ _).mono ?_; rintro e w2 ⟨rfl, rfl⟩; rw [hlb]))
              go_roundg (ln - i)
              case measure => exact HS1.out.2.2.2.2.2.1
              case rel =>
                obtain ⟨h1, h2, h3, h4, h5, h6, h7⟩ := HS1.out
                refine ⟨i + 1, a * 16 + (y - 97 + 10), rfl, rfl, congrArg (Value.int .i64) (by unfold wrap64; omega), by omega, by omega, rfl, acc * 16 + (low n - 87), ?_, ?_, ?_⟩
                · have := HY.out; omega
                · have := HY.out; rw [Nat.pow_succ]; omega
                · rw [h1, HD.out]
            · clear hd
              have HD := Lib.hid hdig
              have iov : a * 16 + (y - 97 + 10) ≤ 65535 := by omega
              clear hdig hlow256 hc256 hx
              go_wp2_with (first | (go_at_call 154; refine (AnyPu.internal_strconv_lower (ρ := Tryz.laysPu14_ren) { Tryz.laysPu14 with } _ _).mono ?_; rintro e w2 ⟨rfl, rfl⟩; rw [hlb]))
              go_roundg (ln - i)
              case measure => exact HS1.out.2.2.2.2.2.1
              case rel =>
                obtain ⟨h1, h2, h3, h4, h5, h6, h7⟩ := HS1.out
                refine ⟨i + 1, a * 16 + (y - 97 + 10), rfl, rfl, congrArg (Value.int .i64) (by unfold wrap64; omega), by omega, by omega, rfl, acc * 16 + (low n - 87), ?_, ?_, ?_⟩
                · have := HY.out; omega
                · have := HY.out; rw [Nat.pow_succ]; omega
                · rw [h1, HD.out]
          · have hdig : digN n = none := by rw [digN, if_neg (by omega), if_pos (by omega), if_neg (by omega)]
            have HD : Hid (hexGo 0 l = none) := by show _ = _; rw [HS1.out.1, hdig]
            clear hdig hlow256 hc256 hx
            by_cases p1 : 48 ≤ x
            · have p2 : ¬ x ≤ 57 := fun e => hd ⟨p1, e⟩
              clear hd
              go_wp2_with (first | (go_at_call 154; refine (AnyPu.internal_strconv_lower (ρ := Tryz.laysPu14_ren) { Tryz.laysPu14 with } _ _).mono ?_; rintro e w2 ⟨rfl, rfl⟩; rw [hlb]))
              go_ret2
              exact ⟨by rw [HD.out]; rfl, HF.out.1⟩
            · clear hd
              go_wp2_with (first | (go_at_call 154; refine (AnyPu.internal_strconv_lower (ρ := Tryz.laysPu14_ren) { Tryz.laysPu14 with } _ _).mono ?_; rintro e w2 ⟨rfl, rfl⟩; rw [hlb]))
              go_ret2
              exact ⟨by rw [HD.out]; rfl, HF.out.1⟩
        · have hdig : digN n = none := by rw [digN, if_neg (by omega), if_neg (by omega)]
          have HD : Hid (hexGo 0 l = none) := by show _ = _; rw [HS1.out.1, hdig]
          clear hdig hlow256 hc256
          by_cases n95 : x = 95
          · subst n95
            have hn : n = 95 := by omega
            subst hn
            have hy127 : y = 127 := by rw [← hy]; decide
            subst hy127
            clear hd hl hx hy
            go_wp2_with (first | (go_at_call 154; refine (AnyPu.internal_strconv_lower (ρ := Tryz.laysPu14_ren) { Tryz.laysPu14 with } _ _).mono ?_; rintro e w2 ⟨rfl, rfl⟩; rw [hlb]))
            go_ret2
            exact ⟨by rw [HD.out]; rfl, HF.out.1⟩
          · clear hx hy
            by_cases p1 : 48 ≤ x
            · have p2 : ¬ x ≤ 57 := fun e => hd ⟨p1, e⟩
              clear hd
              by_cases l1 : 97 ≤ y
              · have l2 : ¬ y ≤ 122 := fun e => hl ⟨l1, e⟩
                clear hl
                go_wp2_with (first | (go_at_call 154; refine (AnyPu.internal_strconv_lower (ρ := Tryz.laysPu14_ren) { Tryz.laysPu14 with } _ _).mono ?_; rintro e w2 ⟨rfl, rfl⟩; rw [hlb]))
                go_ret2
                exact ⟨by rw [HD.out]; rfl, HF.out.1⟩
              · clear hl
                go_wp2_with (first | (go_at_call 154; refine (AnyPu.internal_strconv_lower (ρ := Tryz.laysPu14_ren) { Tryz.laysPu14 with } _ _).mono ?_; rintro e w2 ⟨rfl, rfl⟩; rw [hlb]))
                go_ret2
                exact ⟨by rw [HD.out]; rfl, HF.out.1⟩
            · clear hd
              by_cases l1 : 97 ≤ y
              · have l2 : ¬ y ≤ 122 := fun e => hl ⟨l1, e⟩
                clear hl
                go_wp2_with (first | (go_at_call 154; refine (AnyPu.internal_strconv_lower (ρ := Tryz.laysPu14_ren) { Tryz.laysPu14 with } _ _).mono ?_; rintro e w2 ⟨rfl, rfl⟩; rw [hlb]))
                go_ret2
                exact ⟨by rw [HD.out]; rfl, HF.out.1⟩
              · clear hl
                go_wp2_with (first | (go_at_call 154; refine (AnyPu.internal_strconv_lower (ρ := Tryz.laysPu14_ren) { Tryz.laysPu14 with } _ _).mono ?_; rintro e w2 ⟨rfl, rfl⟩; rw [hlb]))
                go_ret2
                exact ⟨by rw [HD.out]; rfl, HF.out.1⟩

theorem parse16 (l : List UInt8) (hl : l.length ≤ 4) (w : World) (hG : Glob w) : Calls Tryz.prog 131 #[.string (bs l), .int .i64 16, .int .i64 16] w fun e w' =>
    Fr No w w' ∧ ((∃ u, hexV l = some u ∧ e = .returned (.tuple #[.int .u64 (u : Nat), .nilIface])) ∨ (hexV l = none ∧ ∃ (v : Nat) (t : TypeId) (p : Value), e = .returned (.tuple #[.int .u64 v, .iface t p]))) := by
  obtain ⟨ts, ps, hs⟩ := hG.syn
  have HT : Hid (∀ w1, Fr No w w1 → Calls Tryz.prog 114 #[.string ⟨#[80, 97, 114, 115, 101, 85, 105, 110, 116]⟩, .string (bs l), .int .i64 16, .int .i64 16, .iface 127 (.int .i64 2)] w1 fun e w' => ∃ p, e = .returned (.iface 130 p) ∧ Fr No w1 w') := fun w1 hf => by
    refine (AnyPu.strconv_toError_syntax (ρ := Tryz.laysPu14_ren) { Tryz.laysPu14 with } ⟨#[80, 97, 114, 115, 101, 85, 105, 110, 116]⟩ (bs l) 16 16 _ w1 (by rw [bs_size]; omega) (hf.cell hs) (.inr ⟨_, _, rfl⟩)).mono ?_
    rintro e w' ⟨N, rfl, _, _, hb⟩
    exact ⟨_, rfl, Fr.ofBelow hb⟩
  have HI : Hid (Calls Tryz.prog 147 #[.string (bs l), .int .i64 16, .int .i64 16] w fun e w' => e = .returned (ans16 (hexV l)) ∧ Fr No w w') := by
    by_cases h0 : l = []
    · subst h0
      refine (AnyPu.internal_strconv_ParseUint_empty (ρ := Tryz.laysPu14_ren) { Tryz.laysPu14 with } 16 16 w).mono ?_
      rintro e w' ⟨rfl, rfl⟩
      exact ⟨rfl, Fr.refl _ _⟩
    · refine (puint16 l h0 hl w).mono ?_
      rintro e w' ⟨rfl, hf⟩
      refine ⟨?_, hf⟩
      rw [hexV, if_neg (by simp; exact ⟨h0, by omega⟩)]
  generalize bs l = s at HT HI ⊢
  cases hv : hexV l with
  | none =>
    rw [hv] at HI
    clear hs hG hl
    go_enter Tryz.func131, Tryz.ntmps131
    go_wp2_with fail
    refine HI.out.mono ?_
    rintro e w1 ⟨rfl, hf⟩
    have HF := Lib.hid hf
    clear hf
    simp only [ans16]
    go_wp2_with fail
    refine (HT.out _ HF.out).mono ?_
    rintro e w2 ⟨p, rfl, hf2⟩
    have HF2 := Lib.hid hf2
    clear hf2
    go_wp2_with fail
    go_ret2
    exact ⟨HF.out.trans HF2.out, .inr ⟨by first | rfl | trivial, 0, _, _, rfl⟩⟩
  | some u =>
    rw [hv] at HI
    clear hs hG hl
    go_enter Tryz.func131, Tryz.ntmps131
    go_wp2_with fail
    refine HI.out.mono ?_
    rintro e w1 ⟨rfl, hf⟩
    have HF := Lib.hid hf
    clear hf
    simp only [ans16]
    go_wp2_with fail
    go_ret2
    exact ⟨HF.out, .inl ⟨u, rfl, rfl⟩⟩

set_option maxHeartbeats 2000000 in
set_option maxRecDepth 100000 in
theorem parseGroup_any (l : List UInt8) (w : World) (hG : Glob w) :
    Calls Tryz.prog 129 #[.string (bs l)] w fun e w' => e = .returned (.tuple #[.int .u16 (optV (hexV l) : Nat), .bool (optB (hexV l))]) ∧ Fr No w w' := by
  have hsz : (bs l).size = l.length := rfl
  by_cases h4 : 4 < l.length
  · rw [show hexV l = none by rw [hexV, if_pos (.inr h4)]]
    have p1 : (4 : Int) < (l.length : Int) := by omega
    generalize bs l = s at hsz ⊢
    clear h4 hG
    go_enter Tryz.func129, Tryz.ntmps129
    go_wp2_with fail
    go_ret2
    exact ⟨rfl, Fr.refl _ _⟩
  · have p1 : ¬ (4 : Int) < (l.length : Int) := by omega
    have HP := Lib.hid (parse16 l (by omega) w hG)
    have HLT : Hid (∀ u, hexV l = some u → u < 65536) := fun u hu => hexV_lt hu
    generalize bs l = s at hsz HP ⊢
    clear h4 hG
    go_enter Tryz.func129, Tryz.ntmps129
    go_wp2_with fail
    refine HP.out.mono ?_
    rintro e w1 ⟨hf, ⟨u, hu, rfl⟩ | ⟨hno, v, t, p, rfl⟩⟩
    · have hu6 := HLT.out u hu
      have HU := Lib.hid hu
      have HF := Lib.hid hf
      clear hf hu
      go_wp2_with fail
      go_ret2
      exact ⟨by rw [HU.out]; rfl, HF.out⟩
    · have HU := Lib.hid hno
      have HF := Lib.hid hf
      clear hf hno
      go_wp2_with fail
      go_ret2
      exact ⟨by rw [HU.out]; rfl, HF.out⟩
end Go.Proofs.YtmhnailcmlomiaaGreatDoor
