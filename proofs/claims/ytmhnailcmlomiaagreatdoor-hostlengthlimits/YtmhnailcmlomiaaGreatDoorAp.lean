/-
  append over rows whose elements are one cell each, as laws for the walk.
  Conditions: as each theorem says.
  CONTRACTS of slices.Grow of nil and slices.Concat of two slices of groups, over this seat's translation: what each call returns.
  Conditions: the slices lie in memory.
-/
import Derived.Test.YtmhnailcmlomiaaGreatDoorA
namespace Go.Proofs.YtmhnailcmlomiaaGreatDoor
open Go.ChangeShapes Go.WideShapes Go.ChangeAt Go.RowKit
set_option linter.unusedVariables false

/-- A slice type whose elements are one cell each. -/
structure El (st e : TypeId) (B : Nat) : Prop where
  und : Tryz.prog.underlying st = some (.slice e)
  info : ∃ z, (Tryz.prog.info? e).map (fun i => (i.zero, i.size, i.bytes)) = some (some z, 1, B) ∧ z.cells.size = 1

theorem el16 : El 89 93 2 := ⟨Tryz.underlying89, ⟨.int .u16 0, by kernel_rfl, rfl⟩⟩
theorem el8 : El 22 5 1 := ⟨Tryz.underlying22, ⟨.int .u8 0, by kernel_rfl, rfl⟩⟩
theorem elS : El 75 9 16 := ⟨Tryz.underlying75, ⟨.string ⟨#[]⟩, by kernel_rfl, rfl⟩⟩

theorem run_append_vals {w : World} {st e : TypeId} {B : Nat} (E : El st e B) (ty : TypeId) (base : Nat) (v : Value) (n : Nat) (xs : List Value) (hown : w.ownsRow base e 1 v n xs) (A : Option Addr) (m c : Nat) (ys : List Value) (hy1 : ∀ u ∈ ys, u.oneCell' = true) (hm : ys.length = m) (hA : At w A ys) (hnil : A = none → c = 0)
    (h63 : n + m ≤ maxLen) (hbytes : (n + m) * B ≤ 140737488355328) (hbase : base ≤ w.heap.size) :
    ∃ a cap w', (Builtin.append_ #[st, st] ty #[v, .slice A m c]).run Tryz.prog w = .ok (.slice a (n + m) cap) w' ∧ w'.ownsRow base e 1 (.slice a (n + m) cap) (n + m) (xs ++ ys) ∧ w.grownBy w' v.ownBlock ∧ ((Value.slice a (n + m) cap).ownBlock = v.ownBlock ∨ (Value.slice a (n + m) cap).ownBlock = some w.heap.size) := by
  obtain ⟨z, hinfo, hzl⟩ := E.info
  obtain ⟨i0, hi, hz0, hz1, hz2⟩ := info_parts hinfo
  cases A with
  | none =>
    obtain rfl : ys = [] := by
      cases ys with
      | nil => rfl
      | cons y ys => obtain ⟨b, off, h, _⟩ := hA 0 y rfl; cases h
    obtain rfl : m = 0 := by simpa using hm.symm
    obtain rfl := hnil rfl
    obtain ⟨a, cap, rfl, _⟩ := row_any hown
    exact ⟨a, cap, w, run_append_owned_none w base st ty e i0 1 E.und hi _ n _ hown, by simpa using hown, World.grownBy.refl w _, .inl rfl⟩
  | some ad =>
    obtain ⟨v', w', hr, h2, h3, _, h5⟩ := run_append_own_at (P := Tryz.prog) w base st ty e i0 _ 1 B E.und hi hz0 hz1 hz2 hzl (by decide) v n _ hown ad m c ys (by omega) hA.src hy1 h63 hbytes hbase
    obtain ⟨a, cap, rfl, _⟩ := row_any h2
    exact ⟨a, cap, w', hr, h2, h3, h5⟩

theorem wp_append_vals {w : World} {st e : TypeId} {B : Nat} (E : El st e B) {o : Oper} {a : Act} {K : Act → World → Prop} {Q : Exit → Act → World → Prop} (s x : Operand)
    (ho : o.op = .call { callee := .builtin .append, args := #[s, x], argTypes := #[st, st] })
    (base : Nat) (v : Value) (n : Nat) (xs : List Value) (hs : a.eval s = v) (hown : w.ownsRow base e 1 v n xs) (A : Option Addr) (m c : Nat) (ys : List Value) (hx : a.eval x = .slice A m c) (hy1 : ∀ u ∈ ys, u.oneCell' = true) (hm : ys.length = m) (hA : At w A ys) (hnil : A = none → c = 0)
    (h63 : n + m ≤ maxLen) (hbytes : (n + m) * B ≤ 140737488355328) (hbase : base ≤ w.heap.size)
    (h : ∀ a2 cap w', w'.ownsRow base e 1 (.slice a2 (n + m) cap) (n + m) (xs ++ ys) → w.grownBy w' v.ownBlock → ((Value.slice a2 (n + m) cap).ownBlock = v.ownBlock ∨ (Value.slice a2 (n + m) cap).ownBlock = some w.heap.size) → K (a.put o.dst (.slice a2 (n + m) cap)) w') : o.wp Tryz.prog a w K Q := by
  obtain ⟨a2, cap, w', hr, h2, h3, h4⟩ := run_append_vals E o.type base v n xs hown A m c ys hy1 hm hA hnil h63 hbytes hbase
  exact Lib.wp_append_run w s x st st ho v _ hs hx _ _ hr (h a2 cap w' h2 h3 h4)

theorem wpList_append_vals {w : World} {st e : TypeId} {B : Nat} (E : El st e B) {ops : Array Oper} {rest : List Oper} {o : Oper} {a : Act} {Q : Exit → Act → World → Prop} (hgd : o.guard = none) (s x : Operand)
    (ho : o.op = .call { callee := .builtin .append, args := #[s, x], argTypes := #[st, st] })
    (base : Nat) (v : Value) (n : Nat) (xs : List Value) (hs : a.eval s = v) (hown : w.ownsRow base e 1 v n xs) (A : Option Addr) (m c : Nat) (ys : List Value) (hx : a.eval x = .slice A m c) (hy1 : ∀ u ∈ ys, u.oneCell' = true) (hm : ys.length = m) (hA : At w A ys) (hnil : A = none → c = 0)
    (h63 : n + m ≤ maxLen) (hbytes : (n + m) * B ≤ 140737488355328) (hbase : base ≤ w.heap.size)
    (h : ∀ a2 cap w', w'.ownsRow base e 1 (.slice a2 (n + m) cap) (n + m) (xs ++ ys) → w.grownBy w' v.ownBlock → ((Value.slice a2 (n + m) cap).ownBlock = v.ownBlock ∨ (Value.slice a2 (n + m) cap).ownBlock = some w.heap.size) → wpList Tryz.prog ops Q rest (a.put o.dst (.slice a2 (n + m) cap)) w') : wpList Tryz.prog ops Q (o :: rest) a w :=
  wpList_plain hgd fun _ hK => wp_append_vals E s x ho base v n xs hs hown A m c ys hx hy1 hm hA hnil h63 hbytes hbase fun a2 cap w' h2 h3 h4 => hK _ _ (h a2 cap w' h2 h3 h4)

theorem step_append_vals {w : World} {st e : TypeId} {B : Nat} (E : El st e B) {ops : Array Oper} {o : Oper} {a : Act} {K : Act → World → Prop} {Q : Exit → Act → World → Prop} {F : Prop} (hgd : o.guard = none) (s x : Operand)
    (ho : o.op = .call { callee := .builtin .append, args := #[s, x], argTypes := #[st, st] })
    (base : Nat) (v : Value) (n : Nat) (xs : List Value) (hs : a.eval s = v) (hown : w.ownsRow base e 1 v n xs) (A : Option Addr) (m c : Nat) (ys : List Value) (hx : a.eval x = .slice A m c) (hy1 : ∀ u ∈ ys, u.oneCell' = true) (hm : ys.length = m) (hA : At w A ys) (hnil : A = none → c = 0)
    (h63 : n + m ≤ maxLen) (hbytes : (n + m) * B ≤ 140737488355328) (hbase : base ≤ w.heap.size)
    (h : ∀ a2 cap w', w'.ownsRow base e 1 (.slice a2 (n + m) cap) (n + m) (xs ++ ys) → w.grownBy w' v.ownBlock → ((Value.slice a2 (n + m) cap).ownBlock = v.ownBlock ∨ (Value.slice a2 (n + m) cap).ownBlock = some w.heap.size) → K (a.put o.dst (.slice a2 (n + m) cap)) w') :
    if Region.wanted o (yielded ops a.tmps) = true then Oper.wp Tryz.prog o a w K Q else F := by
  have hw : Region.wanted o (yielded ops a.tmps) = true := by simp [Region.wanted, hgd]
  rw [if_pos hw]
  exact wp_append_vals E s x ho base v n xs hs hown A m c ys hx hy1 hm hA hnil h63 hbytes hbase h

/-- What grew is new. -/
theorem Fr.own_grown {w0 w w' : World} {base e : Nat} {v : Value} {n : Nat} {xs : List Value} (hf : Fr No w0 w) (hown : w.ownsRow base e 1 v n xs) (hb : w0.heap.size ≤ base) (hg : w.grownBy w' v.ownBlock) : Fr No w0 w' :=
  hf.ofNew (Fr.grown (S := fun k => base ≤ k) hg (fun k hk => (hown.lt k hk).1)) fun k hk => .inr (by omega)
end Go.Proofs.YtmhnailcmlomiaaGreatDoor
namespace Go.Proofs.YtmhnailcmlomiaaGreatDoor
open Go.ChangeShapes Go.WideShapes Go.ChangeAt Go.RowKit
set_option linter.unusedVariables false

set_option maxHeartbeats 1000000 in
set_option maxRecDepth 100000 in
theorem grow_nil (n : Nat) (w : World) (hn : n ≤ 4096) :
    Calls Tryz.prog 130 #[.slice none 0 0, .int .i64 n] w fun e w' => ∃ a cap, e = .returned (.slice a 0 cap) ∧ w'.ownsRow w.heap.size 93 1 (.slice a 0 cap) 0 [] ∧ Fr No w w' := by
  have p0 : ¬ ((n : Int) < 0) := by omega
  by_cases h0 : n = 0
  · subst h0
    go_enter Tryz.func130, Tryz.ntmps130
    go_wp2_with fail
    go_ret
    exact ⟨none, 0, rfl, World.ownsRow_nil _ _ _ _, Fr.refl _ _⟩
  · have p1 : (0 : Int) < (n : Int) := by omega
    have hinfo : (Tryz.prog.info? 93).map (fun i => (i.zero, i.size, i.bytes)) = some (some (.int .u16 0), 1, 2) := by kernel_rfl
    obtain ⟨i0, hi, hz0, hz1, hz2⟩ := info_parts hinfo
    have hrun : ∀ (w : World) (ty : TypeId), _ := fun w ty => Lib.run_append_nil_zeros (P := Tryz.prog) w 89 3 ty 93 i0 _ .i64 .i64 Tryz.underlying89 Tryz.underlying3 hi hz0 n (by omega) (by omega) (by omega) (by rw [hz2]; omega)
    have hge : n ≤ grownCap w n 0 93 := grownCap_ge w _ _ _
    have hle : grownCap w n 0 93 ≤ maxLen := grownCap_le_maxLen w n 0 93 (by unfold maxLen; omega)
    obtain ⟨G, hG⟩ : ∃ G, G = grownCap w n 0 93 := ⟨_, rfl⟩
    have hr := hrun w 89
    rw [← hG] at hge hle hr
    have HR := Lib.hid hr
    have hG63 : (G : Int) ≤ 9223372036854775807 := by unfold maxLen at hle; omega
    have HO : Hid ((w.drew.alloc (.cells (Builtin.zeroCells (Value.int .u16 0).cells n ++ Builtin.zeroCells (Value.int .u16 0).cells (G - n)) 93)).ownsRow w.heap.size 93 1 (.slice (some ⟨w.heap.size, 0, none⟩) 0 G) 0 []) :=
      World.ownsRow_made w.drew _ G (Nat.le_refl _) hle (by simp [Builtin.zeroCells, Value.cells]; omega)
    have HF : Hid (Fr No w (w.drew.alloc (.cells (Builtin.zeroCells (Value.int .u16 0).cells n ++ Builtin.zeroCells (Value.int .u16 0).cells (G - n)) 93))) := (Fr.drew No w).trans (Fr.alloc No _ _)
    clear hrun hr hG hle
    generalize w.drew.alloc (.cells (Builtin.zeroCells (Value.int .u16 0).cells n ++ Builtin.zeroCells (Value.int .u16 0).cells (G - n)) 93) = w2 at HR HO HF
    go_enter Tryz.func130, Tryz.ntmps130
    go_wp2_with (first | (at_builtin; refine Lib.wpList_append_run _ rfl (.tmp 20) (.tmp 21) 89 3 rfl _ _ rfl rfl _ _ HR.out ?_) | fail)
    go_ret
    exact ⟨_, G, rfl, HO.out, HF.out⟩

theorem two_heads {w w' : World} {b : Nat} {u v : Value} {t : TypeId} (h : w.heap[b]? = some (.cells #[u, v] t (0, 0))) (hf : Fr No w w') : w'.cell? ⟨b, 0, none⟩ = some u ∧ w'.cell? ⟨b, 1, none⟩ = some v := by
  have h1 := (hf.block b (Array.getElem?_eq_some_iff.1 h).1 (fun h => h)).trans h
  refine ⟨?_, ?_⟩ <;> rw [cell_of_row _ b _ _ _ _ h1] <;> rfl

set_option maxHeartbeats 1000000 in
set_option maxRecDepth 100000 in
theorem concat_two (b h t c1 c2 n ty : Nat) (a1 a2 : Option Addr) (xs ys : List Nat) (w : World) (hb : w.heap[b]? = some (.cells #[.slice a1 h c1, .slice a2 t c2] ty (0, 0))) (hx : At w a1 (nums .u16 xs)) (hy : At w a2 (nums .u16 ys)) (hh : xs.length = h) (ht : ys.length = t)
    (h1 : a1 = none → c1 = 0) (h2 : a2 = none → c2 = 0) (hn : h + t = n) (h4 : n ≤ 4096) :
    Calls Tryz.prog 111 #[.slice (some ⟨b, 0, none⟩) 2 2] w fun e w' => ∃ a cap, e = .returned (.slice a n cap) ∧ w'.ownsRow w.heap.size 93 1 (.slice a n cap) n (nums .u16 (xs ++ ys)) ∧ Fr No w w' := by
  have HS := Lib.hid (And.intro hb (And.intro hx (And.intro hy (And.intro hh (And.intro ht (And.intro h1 h2))))))
  have e1 : (h : Int) + (t : Int) = (n : Int) := by omega
  have hhn : h ≤ n := by omega
  have htn : t ≤ n := by omega
  have HN := Lib.hid hn
  clear hb hx hy hh ht h1 h2 hn
  go_enter Tryz.func111, Tryz.ntmps111
  go_wp2_with fail
  go_loopg [3, 11] 3 (fun g s3 s11 wr => ∃ i m : Nat, s3 = .int .i64 m ∧ s11 = .int .i64 i ∧ i ≤ 2 ∧ 2 - i < g ∧ Hid (wr = w ∧ ((i = 0 ∧ m = 0) ∨ (i = 1 ∧ m = h) ∨ (i = 2 ∧ m = n))))
  case atStart => exact ⟨0, 0, rfl, rfl, by omega, by omega, rfl, .inl ⟨rfl, rfl⟩⟩
  case round =>
    obtain ⟨i, m, rfl, rfl, hi2, hig, HR⟩ := hrel
    obtain ⟨hw, hcase⟩ := HR.out
    have hw' := hw.symm
    subst hw'
    clear HR hw
    obtain ⟨k0, k1⟩ := two_heads HS.out.1 (Fr.refl _ _)
    rcases hcase with ⟨rfl, rfl⟩ | ⟨rfl, hm⟩ | ⟨rfl, hm⟩
    · have q : ¬ ((h : Int) < 0) := by omega
      go_wp2_with fail
      go_roundg 2
      case measure => exact hig
      case rel => exact ⟨1, h, rfl, by go_num, by omega, by omega, rfl, .inr (.inl ⟨rfl, rfl⟩)⟩
    · subst hm
      have q : ¬ ((n : Int) < 0) := by omega
      go_wp2_with fail
      go_roundg 1
      case measure => exact hig
      case rel => exact ⟨2, n, rfl, by go_num, by omega, by omega, rfl, .inr (.inr ⟨rfl, rfl⟩)⟩
    · subst hm
      clear k0 k1
      go_wp2_with fail
      refine (grow_nil m _ h4).mono ?_
      rintro e w1 ⟨a, cap, rfl, hown, hf⟩
      have HG := Lib.hid (And.intro hown hf)
      clear hown hf
      go_wp2_with fail
      go_loopg [6, 27] 3 (fun g s6 s27 wr2 => ∃ (i k cp : Nat) (a : Option Addr) (zs : List Nat), s6 = .slice a k cp ∧ s27 = .int .i64 i ∧ i ≤ 2 ∧ 2 - i < g ∧ Hid (wr2.ownsRow w.heap.size 93 1 (.slice a k cp) k (nums .u16 zs) ∧ Fr No w wr2 ∧ ((i = 0 ∧ k = 0 ∧ zs = []) ∨ (i = 1 ∧ k = h ∧ zs = xs) ∨ (i = 2 ∧ k = m ∧ zs = xs ++ ys))))
      case atStart => exact ⟨0, 0, cap, a, [], rfl, rfl, by omega, by omega, HG.out.1, HG.out.2, .inl ⟨rfl, rfl, rfl⟩⟩
      case round =>
        obtain ⟨i, k, cp, a, zs, rfl, rfl, hi2, hig2, HR⟩ := hrel
        obtain ⟨k0, k1⟩ := two_heads HS.out.1 HR.out.2.1
        have hcase := HR.out.2.2
        have H2 : Hid (wr.ownsRow w.heap.size 93 1 (.slice a k cp) k (nums .u16 zs) ∧ Fr No w wr) := ⟨HR.out.1, HR.out.2.1⟩
        clear HG HR
        rcases hcase with ⟨rfl, rfl, rfl⟩ | ⟨rfl, hk, hz⟩ | ⟨rfl, hk, hz⟩
        · go_wp2_with (first | (at_builtin; refine wpList_append_vals el16 rfl (.tmp 31) (.tmp 32) rfl w.heap.size _ 0 [] rfl H2.out.1 a1 h c1 (nums .u16 xs) rfl (nums_one _ _) (by rw [nums_length]; exact HS.out.2.2.2.1) (HS.out.2.1.frNo H2.out.2) HS.out.2.2.2.2.2.1 (by unfold maxLen; omega) (by omega) H2.out.2.size ?_; intro a3 cp3 w3 hown3 hgr3 hat3; have H3 := Lib.hid (And.intro hown3 (And.intro hgr3 hat3)); clear hown3 hgr3 hat3) | fail)
          go_roundg 2
          case measure => exact hig2
          case rel =>
            obtain ⟨hown3, hgr3, _⟩ := H3.out
            refine ⟨1, h, cp3, a3, xs, by simp, by go_num, by omega, by omega, ?_, ?_, .inr (.inl ⟨rfl, rfl, rfl⟩)⟩
            · simpa using hown3
            · exact H2.out.2.own_grown H2.out.1 (Nat.le_refl _) hgr3
        · subst hk hz
          go_wp2_with (first | (at_builtin; refine wpList_append_vals el16 rfl (.tmp 31) (.tmp 32) rfl w.heap.size _ k (nums .u16 zs) rfl H2.out.1 a2 t c2 (nums .u16 ys) rfl (nums_one _ _) (by rw [nums_length]; exact HS.out.2.2.2.2.1) (HS.out.2.2.1.frNo H2.out.2) HS.out.2.2.2.2.2.2 (by unfold maxLen; omega) (by omega) H2.out.2.size ?_; intro a3 cp3 w3 hown3 hgr3 hat3; rw [HN.out] at *; have H3 := Lib.hid (And.intro hown3 (And.intro hgr3 hat3)); clear hown3 hgr3 hat3) | fail)
          go_roundg 1
          case measure => exact hig2
          case rel =>
            obtain ⟨hown3, hgr3, _⟩ := H3.out
            refine ⟨2, m, cp3, a3, zs ++ ys, by simp, by go_num, by omega, by omega, by rw [nums_append]; exact hown3, ?_, .inr (.inr ⟨rfl, rfl, rfl⟩)⟩
            exact H2.out.2.own_grown H2.out.1 (Nat.le_refl _) hgr3
        · subst hk hz
          go_wp2_with fail
          go_ret
          exact ⟨a, cp, rfl, H2.out.1, H2.out.2⟩

end Go.Proofs.YtmhnailcmlomiaaGreatDoor
