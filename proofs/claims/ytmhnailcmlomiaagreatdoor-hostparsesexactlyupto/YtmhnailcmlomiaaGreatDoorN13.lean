/-
  What the pure functions give at the texts of package host's fixed example; equality of targets; no walk.
  Conditions: none.
  CONTRACT of the fixed example of the laws about package host, over this seat's translation: the call returns true.
  Conditions: the package variables are as Gl says.
-/
import Derived.Test.YtmhnailcmlomiaaGreatDoorN10
import Derived.Test.YtmhnailcmlomiaaGreatDoorN7
import Derived.Test.YtmhnailcmlomiaaGreatDoorN12
namespace Go.Proofs.YtmhnailcmlomiaaGreatDoor
open Go.ChangeShapes Go.WideShapes Go.ChangeAt Go.RowKit
set_option linter.unusedVariables false

def hxW : List UInt8 := [87, 87, 87, 46, 69, 120, 97, 109, 112, 108, 101, 46, 111, 114, 103, 46]
def hxN : List UInt8 := [119, 119, 119, 46, 101, 120, 97, 109, 112, 108, 101, 46, 111, 114, 103]
def hxA : List UInt8 := [91, 58, 58, 49, 93, 58, 52, 52, 51]
def hxB : List UInt8 := [49, 46, 50, 46, 51, 58, 52]
def hxOne : List Nat := [0, 0, 0, 0, 0, 0, 0, 0, 0, 0, 0, 0, 0, 0, 0, 1]

theorem hx1 : nameP hxW = some hxN := by decide +kernel
theorem hx2a : lastc 58 hxA = some 5 := by decide +kernel
theorem hx2b : brk (hxA.take 5) = true := by decide +kernel
theorem hx2c : parseS (mid (hxA.take 5)) = some (true, hxOne) := by decide +kernel
theorem hx2d : portV (hxA.drop 6) = some 443 := by decide +kernel
theorem hx2e : pa (mid (hxA.take 5)) true = true := by unfold pa; rw [hx2c]; rfl
theorem hx2f : phT (hxA.take 5) = tgt ⟨#[]⟩ true hxOne 0 ∧ phB (hxA.take 5) = true := by
  refine ⟨?_, ?_⟩
  · rw [phT, if_pos hx2b, paT, if_pos hx2e, hx2c]; rfl
  · rw [phB, if_pos hx2b]; exact hx2e
theorem hx2 : ptT hxA = tgt ⟨#[]⟩ true hxOne 443 ∧ ptB hxA = true := by
  refine ⟨?_, ?_⟩
  · rw [ptT, hx2a]
    show (if phB (hxA.take 5) && (portV (hxA.drop 6)).isSome then withP (phT (hxA.take 5)) (portN (portV (hxA.drop 6))) else noT) = _
    rw [hx2d, hx2f.1, hx2f.2]
    exact withP_tgt _ _ _ rfl _
  · rw [ptB, hx2a]
    show (phB (hxA.take 5) && (portV (hxA.drop 6)).isSome) = true
    rw [hx2d, hx2f.2]; rfl
theorem hx3a : lastc 58 hxB = some 5 := by decide +kernel
theorem hx3b : phB (hxB.take 5) = false := by decide +kernel
theorem hx3 : ptB hxB = false ∧ ptT hxB = noT := by
  refine ⟨?_, ?_⟩
  · rw [ptB, hx3a]
    show (phB (hxB.take 5) && _) = false
    rw [hx3b]; rfl
  · rw [ptT, hx3a]
    show (if phB (hxB.take 5) && (portV (hxB.drop 6)).isSome then withP (phT (hxB.take 5)) (portN (portV (hxB.drop 6))) else noT) = _
    rw [hx3b]; rfl
theorem hx4 : subV [97, 46, 98, 46, 99] [98, 46, 99] = true := by decide +kernel
theorem hx5 : subV [97, 98, 46, 99] [98, 46, 99] = false := by decide +kernel
theorem hx6 : cntV [97, 46, 98, 46, 99] = 3 := by decide +kernel
theorem hx7 : vT [] true hxOne 443 = true := by decide +kernel
theorem hx8 : fT [] true hxOne 443 = hxA := by
  rw [fT, if_pos hx7]
  simp [fhV, fmtA, validA, fmt6, hxOne, grps, grp, scanZ, joinN, hexN, hexD, oct8, decN, hxA]

theorem adr_eq1 {b c : Bool} {xs ys : List Nat} (hx : Bytes xs) (hy : Bytes ys) (w : World) : Sem.run Tryz.prog (Op.equalIn 9999 30 (.agg (adr b xs).toArray) (.agg (adr c ys).toArray)) w = .ok (decide (b = c ∧ xs = ys)) w := by
  have hS : Tryz.prog.underlying 30 = some (.struct (Tryz.prog.fieldsOf 30)) := by kernel_rfl
  have hF : Tryz.prog.fieldsOf 30 = #[{ name := "IPv6", type := 4, offset := 0, embedded := false, tag := "", pkgPath := "", byteOffset := 0 }, { name := "Bytes", type := 28, offset := 1, embedded := false, tag := "", pkgPath := "", byteOffset := 1 }] := by kernel_rfl
  have ex : ∀ (b : Bool) (xs : List Nat), Bytes xs → (adr b xs).toArray.extract 1 (1 + 16) = ((xs.map UInt8.ofNat).map Extern.Stop.cell).toArray := by
    intro b xs hx
    rw [← nums_u8 hx.2]
    apply Array.ext'
    simp [adr]
    rw [List.take_of_length_le (by rw [nums_length, hx.1]; omega)]
  have hE : Sem.run Tryz.prog (Op.equalIn 9998 28 (.agg ((adr b xs).toArray.extract 1 (1 + 16))) (.agg ((adr c ys).toArray.extract 1 (1 + 16)))) w = .ok (decide (xs = ys)) w := by
    rw [ex b xs hx, ex c ys hy, run_equalIn_bytes w 9996 28 5 16 Tryz.underlying28 Tryz.underlying5 Tryz.sizeOf5 _ _ (by simpa using hx.1) (by simpa using hy.1), ofNat_inj hx.2 hy.2]
  have hB : Sem.run Tryz.prog (Op.equalIn 9998 4 (.bool b) (.bool c)) w = .ok (b == c) w := by rw [run_equalIn_bool' w 9997 4 b c Tryz.underlying4]
  have h0 : ∀ (b : Bool) (xs : List Nat), (adr b xs).toArray[0]? = some (.bool b) := fun b xs => rfl
  rw [show (9999 : Nat) = 9998 + 1 from rfl, run_equalIn_agg w 9998 30 _ _ hS Tryz.stoodInHeld30, hF]
  have e1 : ∀ (b : Bool) (xs : List Nat), (adr b xs).toArray.extract 1 17 = (List.take 16 (adr b xs).tail).toArray := fun b xs => by apply Array.ext'; simp [adr]
  rw [show 1 + 16 = 17 from rfl, e1 b xs, e1 c ys] at hE
  simp [Op.eqFields, Go.part, Tryz.isAgg4, Tryz.isAgg28, Tryz.sizeOf28, h0, hB, hE]
  by_cases hxy : xs = ys <;> cases b <;> cases c <;> simp [hxy]

theorem tgt_eq (n m : List UInt8) {b c : Bool} {xs ys : List Nat} (p q : Int) (hx : Bytes xs) (hy : Bytes ys) (w : World) : Sem.run Tryz.prog (Op.equalIn 10000 32 (.agg (tgt (bs n) b xs p).toArray) (.agg (tgt (bs m) c ys q).toArray)) w = .ok (decide (n = m ∧ (b = c ∧ xs = ys) ∧ p = q)) w := by
  have hS : Tryz.prog.underlying 32 = some (.struct (Tryz.prog.fieldsOf 32)) := by kernel_rfl
  have hF : Tryz.prog.fieldsOf 32 = #[{ name := "Name", type := 9, offset := 0, embedded := false, tag := "", pkgPath := "", byteOffset := 0 }, { name := "Addr", type := 30, offset := 1, embedded := false, tag := "", pkgPath := "", byteOffset := 16 }, { name := "Port", type := 3, offset := 18, embedded := false, tag := "", pkgPath := "", byteOffset := 40 }] := by kernel_rfl
  have hex : ∀ (n : ByteArray) (b : Bool) (xs : List Nat) (p : Int), Bytes xs → (tgt n b xs p).toArray.extract 1 (1 + 17) = (adr b xs).toArray := by
    intro n b xs p hx
    apply Array.ext'
    simp [tgt]
    rw [List.take_append_of_le_length (by rw [adr_length, hx.1]; omega), List.take_of_length_le (by rw [adr_length, hx.1]; omega)]
  have h0 : ∀ (n : ByteArray) (b : Bool) (xs : List Nat) (p : Int), (tgt n b xs p).toArray[0]? = some (.string n) := fun n b xs p => rfl
  have h18 : ∀ (n : ByteArray) (b : Bool) (xs : List Nat) (p : Int), Bytes xs → (tgt n b xs p).toArray[18]? = some (.int .i64 p) := fun n b xs p hx => by
    rw [List.getElem?_toArray, tgt, List.getElem?_cons_succ, List.getElem?_append_right (by rw [adr_length, hx.1]; omega), adr_length, hx.1]; rfl
  have h1 := adr_eq1 (b := b) (c := c) hx hy w
  have hS2 : Sem.run Tryz.prog (Op.equalIn 9999 9 (.string (bs n)) (.string (bs m))) w = .ok (decide (n = m)) w := by
    rw [run_equalIn_string w 9998 9 _ _ Tryz.underlying9, bs_eq]
  have hI : Sem.run Tryz.prog (Op.equalIn 9999 3 (.int .i64 p) (.int .i64 q)) w = .ok (p == q) w := run_equalIn_int w 9998 3 _ _ p q Tryz.underlying3
  rw [show (10000 : Nat) = 9999 + 1 from rfl, run_equalIn_agg w 9999 32 _ _ hS Tryz.stoodInHeld32, hF]
  have e1 := hex (bs n) b xs p hx
  have e2 := hex (bs m) c ys q hy
  have z1 := h0 (bs n) b xs p
  have z2 := h0 (bs m) c ys q
  have p1 := h18 (bs n) b xs p hx
  have p2 := h18 (bs m) c ys q hy
  generalize (tgt (bs n) b xs p).toArray = T1 at e1 z1 p1 ⊢
  generalize (tgt (bs m) c ys q).toArray = T2 at e2 z2 p2 ⊢
  rw [show 1 + 17 = 18 from rfl] at e1 e2
  simp [Op.eqFields, Go.part, Tryz.isAgg9, Tryz.isAgg30, Tryz.isAgg3, Tryz.sizeOf30, z1, z2, p1, p2, e1, e2, h1, hS2, hI]
  by_cases hn : n = m <;> by_cases hb : b = c <;> by_cases ha : xs = ys <;> by_cases hp : p = q <;> simp [hn, hb, ha, hp]
end Go.Proofs.YtmhnailcmlomiaaGreatDoor
namespace Go.Proofs.YtmhnailcmlomiaaGreatDoor
open Go.ChangeShapes Go.WideShapes Go.ChangeAt Go.RowKit
set_option linter.unusedVariables false

theorem zero28 : ∀ w, (zeroValue 28).run Tryz.prog w = .ok (.agg (nums .u8 zeros).toArray) w := by
  intro w
  kernel_rfl
set_option maxRecDepth 10000 in
theorem hxB1 : (nums .u8 zeros).toArray.setIfInBounds 15 (.int .u8 1) = (nums .u8 hxOne).toArray := by kernel_rfl
set_option maxRecDepth 10000 in
theorem hxE1 : Array.foldl (fun (cs : Array Value) (x : Value × Nat) => cs.setIfInBounds (1 + x.snd) x.fst) ((adr false zeros).toArray.setIfInBounds 0 (.bool true)) (nums .u8 hxOne).toArray.zipIdx 0 16 = (adr true hxOne).toArray := by kernel_rfl
theorem hxM1 : Array.foldl (fun (cs : Array Value) (x : Value × Nat) => cs.setIfInBounds (1 + x.snd) x.fst) noT.toArray (adr true hxOne).toArray.zipIdx 0 17 = (tgt ⟨#[]⟩ true hxOne 0).toArray := put_addr true hxOne rfl
set_option maxRecDepth 10000 in
theorem hxT1 : (tgt ⟨#[]⟩ true hxOne 0).toArray.setIfInBounds 18 (.int .i64 443) = (tgt ⟨#[]⟩ true hxOne 443).toArray := by kernel_rfl
theorem hxOne_bytes : Bytes hxOne := ⟨rfl, by decide⟩

set_option maxHeartbeats 8000000 in
set_option maxRecDepth 100000 in
theorem hawake_any (w : World) (hG : Gl w) :
    Calls Tryz.prog 8 #[] w fun e w' => e = .returned (.bool true) ∧ Fr No w w' := by
  obtain ⟨Z, hZ⟩ : ∃ Z : Array Value, noT.toArray = Z := ⟨_, rfl⟩
  obtain ⟨Y, hY⟩ : ∃ Y : Array Value, (adr false zeros).toArray = Y := ⟨_, rfl⟩
  obtain ⟨X, hX⟩ : ∃ X : Array Value, (nums .u8 zeros).toArray = X := ⟨_, rfl⟩
  obtain ⟨B, hB⟩ : ∃ B : Array Value, (nums .u8 hxOne).toArray = B := ⟨_, rfl⟩
  obtain ⟨E, hE⟩ : ∃ E : Array Value, (adr true hxOne).toArray = E := ⟨_, rfl⟩
  obtain ⟨T, hT⟩ : ∃ T : Array Value, (tgt ⟨#[]⟩ true hxOne 443).toArray = T := ⟨_, rfl⟩
  have v62 := zero32
  have v24 := zero30
  have v22 := zero28
  have b1 := hxB1
  have b2 := hxE1
  have b3 := hxM1
  have b4 := hxT1
  obtain ⟨M, hM⟩ : ∃ M : Array Value, (tgt ⟨#[]⟩ true hxOne 0).toArray = M := ⟨_, rfl⟩
  have hMs : M.size = 19 := by rw [← hM]; rfl
  have hEq : ∀ w, Sem.run Tryz.prog (Op.equalIn 10000 32 (.agg T) (.agg T)) w = .ok true w := fun w => by
    rw [← hT]
    have := tgt_eq [] [] (b := true) (c := true) (xs := hxOne) (ys := hxOne) 443 443 hxOne_bytes hxOne_bytes w
    rw [decide_eq_true ⟨rfl, ⟨rfl, rfl⟩, rfl⟩] at this
    exact this
  have HPN : Hid (∀ w, Calls Tryz.prog 36 #[.string ⟨#[87, 87, 87, 46, 69, 120, 97, 109, 112, 108, 101, 46, 111, 114, 103, 46]⟩] w fun e w' => e = .returned (.tuple #[.string ⟨#[119, 119, 119, 46, 101, 120, 97, 109, 112, 108, 101, 46, 111, 114, 103]⟩, .bool true]) ∧ Fr No w w') := fun w => by
    have h1 := pname_any hxW (by decide) w
    rw [hx1] at h1
    exact h1
  have HPA : Hid (∀ w, Glob w → Calls Tryz.prog 17 #[.string ⟨#[91, 58, 58, 49, 93, 58, 52, 52, 51]⟩] w fun e w' => e = .returned (.tuple #[.agg T, .bool true]) ∧ Fr No w w') := fun w h => by
    have h1 := ptarget_any hxA w h (by decide)
    rw [hx2.1, hx2.2, hT] at h1
    exact h1
  have HPB : Hid (∀ w, Glob w → Calls Tryz.prog 17 #[.string ⟨#[49, 46, 50, 46, 51, 58, 52]⟩] w fun e w' => e = .returned (.tuple #[.agg Z, .bool false]) ∧ Fr No w w') := fun w h => by
    have h1 := ptarget_any hxB w h (by decide)
    rw [hx3.1, hx3.2, hZ] at h1
    exact h1
  have HS1 : Hid (∀ w, Calls Tryz.prog 37 #[.string ⟨#[97, 46, 98, 46, 99]⟩, .string ⟨#[98, 46, 99]⟩] w fun e w' => e = .returned (.bool true) ∧ w' = w) := fun w => by
    have h1 := sub_any [97, 46, 98, 46, 99] [98, 46, 99] (by decide) (by decide) w
    rw [hx4] at h1
    exact h1
  have HS2 : Hid (∀ w, Calls Tryz.prog 37 #[.string ⟨#[97, 98, 46, 99]⟩, .string ⟨#[98, 46, 99]⟩] w fun e w' => e = .returned (.bool false) ∧ w' = w) := fun w => by
    have h1 := sub_any [97, 98, 46, 99] [98, 46, 99] (by decide) (by decide) w
    rw [hx5] at h1
    exact h1
  have HCN : Hid (∀ w, Calls Tryz.prog 38 #[.string ⟨#[97, 46, 98, 46, 99]⟩] w fun e w' => e = .returned (.int .i64 3) ∧ w' = w) := fun w => by
    have h1 := cnt_any [97, 46, 98, 46, 99] w
    rw [hx6] at h1
    exact h1
  have HFM : Hid (∀ w, Gl w → Calls Tryz.prog 14 #[.agg T] w fun e w' => e = .returned (.string ⟨#[91, 58, 58, 49, 93, 58, 52, 52, 51]⟩) ∧ Fr No w w') := fun w h => by
    have h1 := format_t [] true hxOne 443 hxOne_bytes w h
    rw [hx8] at h1
    rw [← hT]
    exact h1
  have HVL : Hid (∀ w, Calls Tryz.prog 12 #[.agg T] w fun e w' => e = .returned (.bool true) ∧ Fr No w w') := fun w => by
    have h1 := valid_t [] true hxOne 443 hxOne_bytes w
    rw [hx7] at h1
    rw [← hT]
    exact h1
  have hT1 : ∀ u ∈ T.toList, u.oneCell' = true := by rw [← hT]; intro u hu; exact tgt_one _ _ _ _ u (by simpa using hu)
  have hZ1 : ∀ u ∈ Z.toList, u.oneCell' = true := by rw [← hZ]; exact tgt_one _ _ _ _
  have hs : Z.size = 19 ∧ T.size = 19 ∧ Y.size = 17 ∧ E.size = 17 ∧ X.size = 16 ∧ B.size = 16 := ⟨by rw [← hZ]; rfl, by rw [← hT]; rfl, by rw [← hY]; rfl, by rw [← hE]; rfl, by rw [← hX]; rfl, by rw [← hB]; rfl⟩
  rw [hZ] at v62 b3
  rw [hY] at v24 b2
  rw [hX] at v22 b1
  rw [hB] at b1 b2
  rw [hE] at b2 b3
  rw [hT] at b4
  rw [hM] at b3 b4
  have HT := Lib.hid (And.intro hT1 (And.intro hZ1 hG))
  clear hM hZ hY hX hB hE hT hT1 hZ1 hG
  have q62 := Tryz.eqGuardType32
  go_enter Tryz.func8, Tryz.ntmps8
  have t3 := Tryz.underlying3
  have u3 := Tryz.runUnderlying3
  have g3 := Tryz.isAgg3
  have z3 := Tryz.sizeOf3
  have t4 := Tryz.underlying4
  have u4 := Tryz.runUnderlying4
  have g4 := Tryz.isAgg4
  have z4 := Tryz.sizeOf4
  have t5 := Tryz.underlying5
  have u5 := Tryz.runUnderlying5
  have g5 := Tryz.isAgg5
  have z5 := Tryz.sizeOf5
  have t9 := Tryz.underlying9
  have u9 := Tryz.runUnderlying9
  have g9 := Tryz.isAgg9
  have z9 := Tryz.sizeOf9
  have t28 := Tryz.underlying28
  have u28 := Tryz.runUnderlying28
  have g28 := Tryz.isAgg28
  have z28 := Tryz.sizeOf28
  have t30 := Tryz.underlying30
  have u30 := Tryz.runUnderlying30
  have g30 := Tryz.isAgg30
  have z30 := Tryz.sizeOf30
  have t32 := Tryz.underlying32
  have u32 := Tryz.runUnderlying32
  have g32 := Tryz.isAgg32
  have z32 := Tryz.sizeOf32
  have c36 := Tryz.call36
  have c17 := Tryz.call17
  have c37 := Tryz.call37
  have c38 := Tryz.call38
  have c14 := Tryz.call14
  have c12 := Tryz.call12
  have mixed : Tryz.prog.follows .mixedOrders = true := by kernel_rfl
  obtain ⟨k22, hk22⟩ : ∃ k, k = 16 := ⟨_, rfl⟩
  rw [← hk22] at z28
  have nk22 : ¬ k22 = 0 := by omega
  have HK28 := Lib.hid hk22
  obtain ⟨k24, hk24⟩ : ∃ k, k = 17 := ⟨_, rfl⟩
  rw [← hk24] at z30
  have nk24 : ¬ k24 = 0 := by omega
  have HK30 := Lib.hid hk24
  obtain ⟨k62, hk62⟩ : ∃ k, k = 19 := ⟨_, rfl⟩
  rw [← hk62] at z32
  have nk62 : ¬ k62 = 0 := by omega
  have HK32 := Lib.hid hk62
  have hP : Tryz.prog = PD := rfl
  rw [hP] at t3 u3 g3 z3 t4 u4 g4 z4 t5 u5 g5 z5 t9 u9 g9 z9 t28 u28 g28 z28 t30 u30 g30 z30 t32 u32 g32 z32 c36 c17 c37 c38 c14 c12 mixed v62 v24 v22 hEq q62 ⊢
  have HP := Lib.hid hP.symm
  clear hP hk22 hk24 hk62
  have hZk : Z.size = k62 := by rw [HK32.out]; exact hs.1
  have hTk : T.size = k62 := by rw [HK32.out]; exact hs.2.1
  have hYk : Y.size = k24 := by rw [HK30.out]; exact hs.2.2.1
  have hEk : E.size = k24 := by rw [HK30.out]; exact hs.2.2.2.1
  have hXk : X.size = k22 := by rw [HK28.out]; exact hs.2.2.2.2.1
  have hBk : B.size = k22 := by rw [HK28.out]; exact hs.2.2.2.2.2
  have hMk : M.size = k62 := by rw [HK32.out]; exact hMs
  have i1 : 15 < k22 := by have := HK28.out; omega
  have i2 : 1 + k22 ≤ k24 := by have := HK28.out; have := HK30.out; omega
  have i3 : 1 + k24 ≤ k62 := by have := HK30.out; have := HK32.out; omega
  have i4 : 18 < k62 := by have := HK32.out; omega
  have hYne : ¬ Y = #[] := by intro e; have := hs.2.2.1; rw [e] at this; cases this
  have j1 : k22 = 16 := HK28.out
  have j2 : k24 = 17 := HK30.out
  rw [← j1] at b2
  rw [← j2] at b3
  clear hs j1 j2 hMs
  go_wp2_with (first | (go_at_call 36; refine (at_prog HP.out (HPN.out _)).mono ?_; rintro e w1 ⟨rfl, hf1⟩) | fail)
  refine (at_prog HP.out (HPA.out _ (HT.out.2.2.fr hf1).g)).mono ?_
  rintro e w2 ⟨rfl, hf2⟩
  obtain ⟨y1, hs1, hb1, hg1⟩ := store_all (P := PD) T.toList (heap_alloc_new w2 (.cells Z 32)) (by rw [Array.length_toList, hTk, hZk]) HT.out.1
  have hb1' : y1.heap[w2.heap.size]? = some (.cells T 32 (0, 0)) := by simpa using hb1
  have F1 := Lib.hid (((hf1.trans hf2).trans (Fr.alloc No w2 (.cells Z 32))).ofNew hg1 fun k hk => .inr (by rw [hk]; exact (hf1.trans hf2).size))
  have B1 := Lib.hid hb1'
  clear hb1 hb1' hg1 hf1 hf2
  go_wp2_with fail
  refine (at_prog HP.out (HPB.out _ (HT.out.2.2.fr F1.out).g)).mono ?_
  rintro e w3 ⟨rfl, hf3⟩
  obtain ⟨y2, hs2, hb2, hg2⟩ := store_all (P := PD) Z.toList (heap_alloc_new w3 (.cells Z 32)) (by rw [Array.length_toList]) HT.out.2.1
  have hb0 : y2.heap[w2.heap.size]? = some (.cells T 32 (0, 0)) := by
    have k0 := hf3.keep B1.out
    have k1 := (Fr.alloc No w3 (.cells Z 32)).keep k0
    have l0 := (Array.getElem?_eq_some_iff.1 k0).1
    exact (hg2.block _ (Array.getElem?_eq_some_iff.1 k1).1 (by omega)).trans k1
  have F2 := Lib.hid (((F1.out.trans hf3).trans (Fr.alloc No w3 (.cells Z 32))).ofNew hg2 fun k hk => .inr (by rw [hk]; exact (F1.out.trans hf3).size))
  have HLD : Hid (∀ w', Fr No y2 w' → Sem.run PD (loadCellsFrom ⟨w2.heap.size, 0, none⟩ 0 k62 #[]) w' = .ok T w') := fun w' hf => load_block (hf.keep hb0) hTk (fun j v hv => by simpa using hv)
  have m1 := HLD.out _ (Fr.refl No y2)
  clear hb2 hg2 hf3 hb0 hs1
  go_wp2_with (first | (go_at_call 37; with_reducible refine (at_prog HP.out (HS1.out _)).mono ?_; rintro e wa ⟨rfl, hwa⟩; subst hwa) | (go_at_call 37; with_reducible refine (at_prog HP.out (HS2.out _)).mono ?_; rintro e wb ⟨rfl, hwb⟩; subst hwb) | (go_at_call 38; refine (at_prog HP.out (HCN.out _)).mono ?_; rintro e wc ⟨rfl, hwc⟩; subst hwc) | (go_at_call 14; refine (at_prog HP.out (HFM.out _ (HT.out.2.2.fr F2.out))).mono ?_; rintro e w6 ⟨rfl, hf6⟩; have m2 := HLD.out _ hf6) | (go_at_call 12; refine (at_prog HP.out (HVL.out _)).mono ?_; rintro e w7 ⟨rfl, hf7⟩) | fail)
  go_ret
  exact ⟨rfl, (F2.out.trans hf6).trans hf7⟩
end Go.Proofs.YtmhnailcmlomiaaGreatDoor
