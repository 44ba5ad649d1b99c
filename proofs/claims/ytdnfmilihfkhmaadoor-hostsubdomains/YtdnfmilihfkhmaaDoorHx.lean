/-
  What the pure functions give at the texts of package host's fixed example; equality of targets; no walk.
  Conditions: none.
-/
import Derived.Test.YtdnfmilihfkhmaaDoorN10
import Derived.Test.YtdnfmilihfkhmaaDoorN7
import Derived.Test.YtdnfmilihfkhmaaDoorN12
namespace Go.Proofs.YtdnfmilihfkhmaaDoor
open Go.ChangeShapes Go.WideShapes Go.ChangeAt Go.RowKit
set_option linter.unusedVariables false

def hxW : List UInt8 := [87, 87, 87, 46, 69, 120, 97, 109, 112, 108, 101, 46, 111, 114, 103, 46]
def hxN : List UInt8 := [119, 119, 119, 46, 101, 120, 97, 109, 112, 108, 101, 46, 111, 114, 103]
def hxA : List UInt8 := [91, 58, 58, 49, 93, 58, 52, 52, 51]
def hxB : List UInt8 := [49, 46, 50, 46, 51, 58, 52]
def hxOne : List Nat := [0, 0, 0, 0, 0, 0, 0, 0, 0, 0, 0, 0, 0, 0, 0, 1]

theorem hx1 : nameP hxW = some hxN := by decide +kernel
theorem hx2a : lastc 58 hxA = some 5 := by decide +kernel
theorem hx2b : brk (hxA.take 5) = true := by decide +kernel
theorem hx2c : parseS (mid (hxA.take 5)) = some (true, hxOne) := by decide +kernel
theorem hx2d : portV (hxA.drop 6) = some 443 := by decide +kernel
theorem hx2e : pa (mid (hxA.take 5)) true = true := by unfold pa; rw [hx2c]; rfl
theorem hx2f : phT (hxA.take 5) = tgt ⟨#[]⟩ true hxOne 0 ∧ phB (hxA.take 5) = true := by
  refine ⟨?_, ?_⟩
  · rw [phT, if_pos hx2b, paT, if_pos hx2e, hx2c]; rfl
  · rw [phB, if_pos hx2b]; exact hx2e
theorem hx2 : ptT hxA = tgt ⟨#[]⟩ true hxOne 443 ∧ ptB hxA = true := by
  refine ⟨?_, ?_⟩
  · rw [ptT, hx2a]
    show (if phB (hxA.take 5) && (portV (hxA.drop 6)).isSome then withP (phT (hxA.take 5)) (portN (portV (hxA.drop 6))) else noT) = _
    rw [hx2d, hx2f.1, hx2f.2]
    exact withP_tgt _ _ _ rfl _
  · rw [ptB, hx2a]
    show (phB (hxA.take 5) && (portV (hxA.drop 6)).isSome) = true
    rw [hx2d, hx2f.2]; rfl
theorem hx3a : lastc 58 hxB = some 5 := by decide +kernel
theorem hx3b : phB (hxB.take 5) = false := by decide +kernel
theorem hx3 : ptB hxB = false ∧ ptT hxB = noT := by
  refine ⟨?_, ?_⟩
  · rw [ptB, hx3a]
    show (phB (hxB.take 5) && _) = false
    rw [hx3b]; rfl
  · rw [ptT, hx3a]
    show (if phB (hxB.take 5) && (portV (hxB.drop 6)).isSome then withP (phT (hxB.take 5)) (portN (portV (hxB.drop 6))) else noT) = _
    rw [hx3b]; rfl
theorem hx4 : subV [97, 46, 98, 46, 99] [98, 46, 99] = true := by decide +kernel
theorem hx5 : subV [97, 98, 46, 99] [98, 46, 99] = false := by decide +kernel
theorem hx6 : cntV [97, 46, 98, 46, 99] = 3 := by decide +kernel
theorem hx7 : vT [] true hxOne 443 = true := by decide +kernel
theorem hx8 : fT [] true hxOne 443 = hxA := by
  rw [fT, if_pos hx7]
  simp [fhV, fmtA, validA, fmt6, hxOne, grps, grp, scanZ, joinN, hexN, hexD, oct8, decN, hxA]

theorem adr_eq1 {b c : Bool} {xs ys : List Nat} (hx : Bytes xs) (hy : Bytes ys) (w : World) : Sem.run Tryd.prog (Op.equalIn 9999 24 (.agg (adr b xs).toArray) (.agg (adr c ys).toArray)) w = .ok (decide (b = c ∧ xs = ys)) w := by
  have hS : Tryd.prog.underlying 24 = some (.struct (Tryd.prog.fieldsOf 24)) := by kernel_rfl
  have hF : Tryd.prog.fieldsOf 24 = #[{ name := "IPv6", type := 4, offset := 0, embedded := false, tag := "", pkgPath := "", byteOffset := 0 }, { name := "Bytes", type := 22, offset := 1, embedded := false, tag := "", pkgPath := "", byteOffset := 1 }] := by kernel_rfl
  have ex : ∀ (b : Bool) (xs : List Nat), Bytes xs → (adr b xs).toArray.extract 1 (1 + 16) = ((xs.map UInt8.ofNat).map Extern.Stop.cell).toArray := by
    intro b xs hx
    rw [← nums_u8 hx.2]
    apply Array.ext'
    simp [adr]
    rw [List.take_of_length_le (by rw [nums_length, hx.1]; omega)]
  have hE : Sem.run Tryd.prog (Op.equalIn 9998 22 (.agg ((adr b xs).toArray.extract 1 (1 + 16))) (.agg ((adr c ys).toArray.extract 1 (1 + 16)))) w = .ok (decide (xs = ys)) w := by
    rw [ex b xs hx, ex c ys hy, run_equalIn_bytes w 9996 22 5 16 Tryd.underlying22 Tryd.underlying5 Tryd.sizeOf5 _ _ (by simpa using hx.1) (by simpa using hy.1), ofNat_inj hx.2 hy.2]
  have hB : Sem.run Tryd.prog (Op.equalIn 9998 4 (.bool b) (.bool c)) w = .ok (b == c) w := by rw [run_equalIn_bool' w 9997 4 b c Tryd.underlying4]
  have h0 : ∀ (b : Bool) (xs : List Nat), (adr b xs).toArray[0]? = some (.bool b) := fun b xs => rfl
  rw [show (9999 : Nat) = 9998 + 1 from rfl, run_equalIn_agg w 9998 24 _ _ hS Tryd.stoodInHeld24, hF]
  have e1 : ∀ (b : Bool) (xs : List Nat), (adr b xs).toArray.extract 1 17 = (List.take 16 (adr b xs).tail).toArray := fun b xs => by apply Array.ext'; simp [adr]
  rw [show 1 + 16 = 17 from rfl, e1 b xs, e1 c ys] at hE
  simp [Op.eqFields, Go.part, Tryd.isAgg4, Tryd.isAgg22, Tryd.sizeOf22, h0, hB, hE]
  by_cases hxy : xs = ys <;> cases b <;> cases c <;> simp [hxy]

theorem tgt_eq (n m : List UInt8) {b c : Bool} {xs ys : List Nat} (p q : Int) (hx : Bytes xs) (hy : Bytes ys) (w : World) : Sem.run Tryd.prog (Op.equalIn 10000 62 (.agg (tgt (bs n) b xs p).toArray) (.agg (tgt (bs m) c ys q).toArray)) w = .ok (decide (n = m ∧ (b = c ∧ xs = ys) ∧ p = q)) w := by
  have hS : Tryd.prog.underlying 62 = some (.struct (Tryd.prog.fieldsOf 62)) := by kernel_rfl
  have hF : Tryd.prog.fieldsOf 62 = #[{ name := "Name", type := 9, offset := 0, embedded := false, tag := "", pkgPath := "", byteOffset := 0 }, { name := "Addr", type := 24, offset := 1, embedded := false, tag := "", pkgPath := "", byteOffset := 16 }, { name := "Port", type := 3, offset := 18, embedded := false, tag := "", pkgPath := "", byteOffset := 40 }] := by kernel_rfl
  have hex : ∀ (n : ByteArray) (b : Bool) (xs : List Nat) (p : Int), Bytes xs → (tgt n b xs p).toArray.extract 1 (1 + 17) = (adr b xs).toArray := by
    intro n b xs p hx
    apply Array.ext'
    simp [tgt]
    rw [List.take_append_of_le_length (by rw [adr_length, hx.1]; omega), List.take_of_length_le (by rw [adr_length, hx.1]; omega)]
  have h0 : ∀ (n : ByteArray) (b : Bool) (xs : List Nat) (p : Int), (tgt n b xs p).toArray[0]? = some (.string n) := fun n b xs p => rfl
  have h18 : ∀ (n : ByteArray) (b : Bool) (xs : List Nat) (p : Int), Bytes xs → (tgt n b xs p).toArray[18]? = some (.int .i64 p) := fun n b xs p hx => by
    rw [List.getElem?_toArray, tgt, List.getElem?_cons_succ, List.getElem?_append_right (by rw [adr_length, hx.1]; omega), adr_length, hx.1]; rfl
  have h1 := adr_eq1 (b := b) (c := c) hx hy w
  have hS2 : Sem.run Tryd.prog (Op.equalIn 9999 9 (.string (bs n)) (.string (bs m))) w = .ok (decide (n = m)) w := by
    rw [run_equalIn_string w 9998 9 _ _ Tryd.underlying9, bs_eq]
  have hI : Sem.run Tryd.prog (Op.equalIn 9999 3 (.int .i64 p) (.int .i64 q)) w = .ok (p == q) w := run_equalIn_int w 9998 3 _ _ p q Tryd.underlying3
  rw [show (10000 : Nat) = 9999 + 1 from rfl, run_equalIn_agg w 9999 62 _ _ hS Tryd.stoodInHeld62, hF]
  have e1 := hex (bs n) b xs p hx
  have e2 := hex (bs m) c ys q hy
  have z1 := h0 (bs n) b xs p
  have z2 := h0 (bs m) c ys q
  have p1 := h18 (bs n) b xs p hx
  have p2 := h18 (bs m) c ys q hy
  generalize (tgt (bs n) b xs p).toArray = T1 at e1 z1 p1 ⊢
  generalize (tgt (bs m) c ys q).toArray = T2 at e2 z2 p2 ⊢
  rw [show 1 + 17 = 18 from rfl] at e1 e2
  simp [Op.eqFields, Go.part, Tryd.isAgg9, Tryd.isAgg24, Tryd.isAgg3, Tryd.sizeOf24, z1, z2, p1, p2, e1, e2, h1, hS2, hI]
  by_cases hn : n = m <;> by_cases hb : b = c <;> by_cases ha : xs = ys <;> by_cases hp : p = q <;> simp [hn, hb, ha, hp]
end Go.Proofs.YtdnfmilihfkhmaaDoor
