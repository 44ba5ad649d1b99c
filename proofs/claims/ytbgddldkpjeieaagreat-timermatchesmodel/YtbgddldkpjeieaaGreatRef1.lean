/-
  How the reference's timers lie in memory; CONTRACTS of their Find and Deadline over this seat's translation.
  Conditions: the reference's timers lie in memory as RefAt says.
-/
import Derived.Test.YtbgddldkpjeieaaGreatFam
import Derived.Deep.LoopGhost
import Derived.BigQuiet
import Derived.Deep.QuietTactic
namespace Go.Proofs.YtbgddldkpjeieaaGreat
open Go.ChangeShapes Go.WideShapes Go.ChangeAt Go.RowKit Go.Maps
set_option linter.unusedVariables false

def IsTag (v : Value) : Prop := ∃ xa xb xc : Int, v = Value.agg #[.int .i64 xa, .int .i64 xb, .int .i64 xc]
def tg (v : Value) (i : Nat) : Value := ((aggCells v)[i]?).getD undef

theorem tg_mk (a b c : Int) : tg (Value.agg #[.int .i64 a, .int .i64 b, .int .i64 c]) 0 = .int .i64 a ∧ tg (Value.agg #[.int .i64 a, .int .i64 b, .int .i64 c]) 1 = .int .i64 b ∧ tg (Value.agg #[.int .i64 a, .int .i64 b, .int .i64 c]) 2 = .int .i64 c := ⟨rfl, rfl, rfl⟩

def flat6 : List Rec → List Value
  | [] => []
  | r :: L => .int .i64 r.id :: .int .i64 r.par :: .int .u64 r.due :: tg r.val 0 :: tg r.val 1 :: tg r.val 2 :: flat6 L

theorem flat6_length (A : List Rec) : (flat6 A).length = A.length * 6 := by
  induction A with
  | nil => rfl
  | cons e A ih => simp [flat6, ih]; omega

theorem flat6_get (A : List Rec) : ∀ (i : Nat) (r : Rec), A[i]? = some r → (flat6 A)[i * 6]? = some (.int .i64 r.id) ∧ (flat6 A)[i * 6 + 1]? = some (.int .i64 r.par) ∧ (flat6 A)[i * 6 + 2]? = some (.int .u64 r.due) ∧ (flat6 A)[i * 6 + 3]? = some (tg r.val 0) ∧ (flat6 A)[i * 6 + 4]? = some (tg r.val 1) ∧ (flat6 A)[i * 6 + 5]? = some (tg r.val 2) := by
  induction A with
  | nil => intro i e h; simp at h
  | cons a A ih =>
    intro i e h
    cases i with
    | zero => simp at h; subst h; simp [flat6]
    | succ i =>
      have h' : A[i]? = some e := by simpa using h
      have := ih i e h'
      rw [show (i + 1) * 6 = i * 6 + 1 + 1 + 1 + 1 + 1 + 1 by omega]
      simpa [flat6, Nat.add_right_comm] using this

theorem flat6_due (A : List Rec) : ∀ (i : Nat) (r : Rec) (d : Int), A[i]? = some r → (flat6 A).set (i * 6 + 2) (.int .u64 d) = flat6 (A.set i { r with due := d }) := by
  induction A with
  | nil => intro i e d h; simp at h
  | cons a A ih =>
    intro i e d h
    cases i with
    | zero => simp at h; subst h; simp [flat6]
    | succ i =>
      rw [show (i + 1) * 6 + 2 = (i * 6 + 2) + 1 + 1 + 1 + 1 + 1 + 1 by omega]
      simp only [flat6, List.set_cons_succ]
      rw [ih i e d (by simpa using h)]

theorem flat6_append (A B : List Rec) : flat6 (A ++ B) = flat6 A ++ flat6 B := by
  induction A with
  | nil => rfl
  | cons a A ih => simp [flat6, ih]

theorem flat6_take (A : List Rec) : ∀ n : Nat, (flat6 A).take (n * 6) = flat6 (A.take n) := by
  induction A with
  | nil => intro n; simp [flat6]
  | cons a A ih =>
    intro n
    cases n with
    | zero => simp [flat6]
    | succ n =>
      rw [show (n + 1) * 6 = n * 6 + 1 + 1 + 1 + 1 + 1 + 1 by omega]
      simp [flat6, ih]

theorem flat6_drop (A : List Rec) : ∀ n : Nat, (flat6 A).drop (n * 6) = flat6 (A.drop n) := by
  induction A with
  | nil => intro n; simp [flat6]
  | cons a A ih =>
    intro n
    cases n with
    | zero => simp [flat6]
    | succ n =>
      rw [show (n + 1) * 6 = n * 6 + 1 + 1 + 1 + 1 + 1 + 1 by omega]
      simp [flat6, ih]

/-- A list of timers in the order of their handles, whatever their parents. -/
structure Shrub (L : List Rec) (last : Int) : Prop where
  asc : L.Pairwise (fun a b => a.id < b.id)
  id : ∀ r ∈ L, 1 ≤ r.id ∧ r.id ≤ last
  due : ∀ r ∈ L, 0 ≤ r.due ∧ r.due ≤ 18446744073709551615
  len : (L.length : Int) ≤ last

theorem Wood.shrub {L : List Rec} {last : Int} (h : Wood L last) : Shrub L last := ⟨h.asc, h.id, h.due, h.len⟩
theorem Shrub.sub {L K : List Rec} {last : Int} (h : Shrub L last) (hs : K.Sublist L) : Shrub K last :=
  ⟨h.asc.sublist hs, fun r hr => h.id r (hs.subset hr), fun r hr => h.due r (hs.subset hr), by have := h.len; have := hs.length_le; omega⟩

structure RefAt (w : World) (xb : Nat) (iv : Value) (L : List Rec) (last : Int) : Prop where
  hdr : w.heap[xb]? = some (.cells #[iv, .int .i64 last] 30 (0, 0))
  row : w.ownsRow 0 58 6 iv L.length (flat6 L)
  shrub : Shrub L last
  val : ∀ r ∈ L, IsTag r.val
  top : 0 ≤ last ∧ last ≤ 1000

def OwnR (xb : Nat) (iv : Value) (k : Nat) : Prop := k = xb ∨ iv.ownBlock = some k
def Rf (X : Nat → Prop) (w : World) (xb : Nat) (L : List Rec) (last : Int) : Prop := ∃ iv, RefAt w xb iv L last ∧ Wood L last ∧ ∀ k, OwnR xb iv k → X k

section
variable {w w' : World} {xb : Nat} {iv : Value} {L : List Rec} {last : Int}

theorem RefAt.len (h : RefAt w xb iv L last) : L.length ≤ 1000 := by have := h.shrub.len; have := h.top; omega
theorem RefAt.lt (h : RefAt w xb iv L last) : xb < w.heap.size := (Array.getElem?_eq_some_iff.1 h.hdr).1
theorem RefAt.own_lt (h : RefAt w xb iv L last) {k : Nat} (hk : OwnR xb iv k) : k < w.heap.size := by
  rcases hk with rfl | hk
  · exact h.lt
  · exact (h.row.lt k hk).2
theorem row6_keep {xs : List Value} {m base : Nat} {sv : Value} (h : w.ownsRow base 58 6 sv m xs) (hw : ∀ k, sv.ownBlock = some k → w'.heap[k]? = w.heap[k]?) : w'.ownsRow base 58 6 sv m xs := by
  refine ⟨h.1, ?_⟩
  rcases h.2 with hv | ⟨g, cap', cur, hv, h1, h2, h3⟩
  · exact .inl hv
  · exact .inr ⟨g, cap', cur, hv, h1, (hw g (by rw [hv]; rfl)).trans h2, h3⟩
theorem RefAt.keep (h : RefAt w xb iv L last) (hw : ∀ k, OwnR xb iv k → w'.heap[k]? = w.heap[k]?) : RefAt w' xb iv L last :=
  ⟨(hw xb (.inl rfl)).trans h.hdr, row6_keep h.row (fun k hk => hw k (.inr hk)), h.shrub, h.val, h.top⟩
theorem RefAt.fr {S : Nat → Prop} (h : RefAt w xb iv L last) (hf : Fr S w w') (hS : ∀ k, OwnR xb iv k → ¬ S k) : RefAt w' xb iv L last := h.keep fun k hk => hf.block k (h.own_lt hk) (hS k hk)
theorem RefAt.frNo (h : RefAt w xb iv L last) (hf : Fr No w w') : RefAt w' xb iv L last := h.fr hf fun _ _ h => h
theorem RefAt.form (h : RefAt w xb iv L last) (hn : 0 < L.length) : ∃ g cap, iv = .slice (some ⟨g, 0, none⟩) L.length cap := by
  rcases h.row.2 with ⟨hv, hn'⟩ | ⟨g, cap, cur, hv, _⟩
  · omega
  · exact ⟨g, cap, hv⟩
theorem RefAt.form0 (h : RefAt w xb iv L last) : ∃ a cap, iv = .slice a L.length cap := by
  rcases h.row.2 with ⟨hv, hn⟩ | ⟨g, cap, cur, hv, _⟩
  · exact ⟨none, 0, by rw [hv, hn]⟩
  · exact ⟨_, cap, hv⟩
theorem RefAt.hcell (h : RefAt w xb iv L last) : w.cell? ⟨xb, 0, none⟩ = some iv ∧ w.cell? ⟨xb, 1, none⟩ = some (.int .i64 last) := by
  refine ⟨?_, ?_⟩ <;> simp [World.cell?, h.hdr]
theorem RefAt.hfrozen (h : RefAt w xb iv L last) (j : Nat) : w.frozen? ⟨xb, j, none⟩ = false := frozen_of_row w xb j _ _ h.hdr
theorem RefAt.ecell {g m cap : Nat} (h : RefAt w xb (.slice (some ⟨g, 0, none⟩) m cap) L last) {i : Nat} {r : Rec} (hi : L[i]? = some r) :
    w.cell? ⟨g, i * 6, none⟩ = some (.int .i64 r.id) ∧ w.cell? ⟨g, i * 6 + 1, none⟩ = some (.int .i64 r.par) ∧ w.cell? ⟨g, i * 6 + 2, none⟩ = some (.int .u64 r.due) ∧ w.cell? ⟨g, i * 6 + 3, none⟩ = some (tg r.val 0) ∧ w.cell? ⟨g, i * 6 + 4, none⟩ = some (tg r.val 1) ∧ w.cell? ⟨g, i * 6 + 5, none⟩ = some (tg r.val 2) := by
  have hil : i < L.length := (List.getElem?_eq_some_iff.1 hi).1
  obtain ⟨g', cap', hv⟩ := h.form (by omega)
  cases hv
  have := flat6_get L i r hi
  rw [h.row.cellAt _ (by omega), h.row.cellAt _ (by omega), h.row.cellAt _ (by omega), h.row.cellAt _ (by omega), h.row.cellAt _ (by omega), h.row.cellAt _ (by omega)]
  exact this
theorem RefAt.efrozen {g m cap : Nat} (h : RefAt w xb (.slice (some ⟨g, 0, none⟩) m cap) L last) (hn : L.length = m) (j : Nat) : w.frozen? ⟨g, j, none⟩ = false := by
  subst hn
  exact h.row.frozenAt j
theorem RefAt.apart (h : RefAt w xb iv L last) : iv.ownBlock ≠ some xb := by
  intro e
  rcases h.row.2 with ⟨hv, _⟩ | ⟨g, cap, cur, hv, _, hc, _⟩
  · rw [hv] at e; simp [Value.ownBlock] at e
  · rw [hv] at e; simp [Value.ownBlock] at e; subst e; exact cells_ne hc h.hdr (by decide) rfl
theorem Rf.mono {X Y : Nat → Prop} (h : Rf X w xb L last) (hS : ∀ k, k < w.heap.size → X k → Y k) : Rf Y w xb L last := by
  obtain ⟨iv, h1, hw, h2⟩ := h; exact ⟨iv, h1, hw, fun k hk => hS k (h1.own_lt hk) (h2 k hk)⟩
theorem Rf.other {X T : Nat → Prop} (h : Rf X w xb L last) (hf : Fr T w w') (hS : ∀ k, X k → ¬ T k) : Rf X w' xb L last := by
  obtain ⟨iv, h1, hw, h2⟩ := h; exact ⟨iv, h1.fr hf fun k hk => hS k (h2 k hk), hw, h2⟩
theorem Rf.frNo {X : Nat → Prop} (h : Rf X w xb L last) (hf : Fr No w w') : Rf X w' xb L last := h.other hf fun _ _ h => h
theorem Rf.wood {X : Nat → Prop} (h : Rf X w xb L last) : Wood L last := by obtain ⟨iv, h1, hw, h2⟩ := h; exact hw
end

set_option maxHeartbeats 1000000 in
set_option maxRecDepth 100000 in
theorem find_any (xb : Nat) (iv : Value) (L : List Rec) (last : Int) (k : Int) (w : World) (h : RefAt w xb iv L last) :
    Calls Tryz.prog 21 #[.pointer (some ⟨xb, 0, none⟩), .int .i64 k] w fun e w' => w' = w ∧ ((e = .returned (.int .i64 (-1)) ∧ ∀ r ∈ L, r.id ≠ k) ∨ ∃ (i : Nat) (r : Rec), e = .returned (.int .i64 i) ∧ L[i]? = some r ∧ r.id = k) := by
  have hlen := h.len
  obtain ⟨n, hn⟩ : ∃ n, L.length = n := ⟨_, rfl⟩
  obtain ⟨a, cap, rfl⟩ := h.form0
  have c0 := h.hcell.1
  rw [hn] at h c0 hlen
  have HS := Lib.hid (And.intro h hn)
  clear h hn
  go_enter Tryz.func21, Tryz.ntmps21
  go_wp2_with fail
  go_loopg [5] (n + 1) (fun g s wr => ∃ (i : Nat), s = .int .i64 i ∧ i ≤ n ∧ n - i < g ∧ wr = w ∧ Hid (∀ (j : Nat) (r : Rec), j < i → L[j]? = some r → r.id ≠ k))
  case atStart => exact ⟨0, by go_num, by omega, by omega, rfl, fun j e h => by omega⟩
  case round =>
    obtain ⟨i, rfl, hin, hig, rfl, HR⟩ := hrel
    by_cases hi : i < n
    · obtain ⟨ei, gi⟩ : ∃ e, L[i]? = some e := ⟨_, List.getElem?_eq_getElem (by have := HS.out.2; omega)⟩
      obtain ⟨g, cap', hv⟩ := HS.out.1.form (by have := HS.out.2; omega)
      obtain rfl : a = some ⟨g, 0, none⟩ := by cases hv; rfl
      have a0 := (HS.out.1.ecell gi).1
      have HG := Lib.hid gi
      have p1 : (0 : Int) ≤ (i : Int) := by omega
      have p2 : (i : Int) < (n : Int) := by omega
      clear gi hv
      by_cases hk : ei.id = k
      · subst hk
        go_wp2_with fail
        go_ret
        exact ⟨rfl, Or.inr ⟨i, ei, rfl, HG.out, rfl⟩⟩
      · have hkb : (ei.id == k) = false := by simpa using hk
        have HK := Lib.hid hk
        clear hk
        go_wp2_with fail
        go_roundg (n - i)
        case measure => exact hig
        case rel =>
          refine ⟨i + 1, by go_num, by omega, by omega, rfl, fun j e hj he => ?_⟩
          by_cases hji : j = i
          · subst hji
            rw [HG.out] at he
            cases he
            exact HK.out
          · exact HR.out j e (by omega) he
    · obtain rfl : i = n := by omega
      have p2 : ¬ ((i : Int) < (i : Int)) := by omega
      go_wp2_with fail
      go_ret
      refine ⟨rfl, Or.inl ⟨rfl, fun r hr => ?_⟩⟩
      obtain ⟨j, hj⟩ := List.mem_iff_getElem?.1 hr
      exact HR.out j r (by have := (List.getElem?_eq_some_iff.1 hj).1; have := HS.out.2; omega) hj

theorem find_hit (xb : Nat) (iv : Value) (L : List Rec) (last : Int) (i : Nat) (r : Rec) (w : World) (h : RefAt w xb iv L last) (hi : L[i]? = some r) :
    Calls Tryz.prog 21 #[.pointer (some ⟨xb, 0, none⟩), .int .i64 r.id] w fun e w' => e = .returned (.int .i64 i) ∧ w' = w := by
  refine (find_any xb iv L last r.id w h).mono ?_
  rintro e w' ⟨rfl, h1 | ⟨j, r', rfl, hj, he⟩⟩
  · exact absurd rfl (h1.2 r (List.mem_of_getElem? hi))
  · have := pairwise_uniq h.shrub.asc (List.mem_of_getElem? hj) (List.mem_of_getElem? hi) he
    subst this
    have hnd : L.Nodup := h.shrub.asc.imp fun {a b} hab e => by rw [e] at hab; omega
    have := (List.getElem?_inj (List.getElem?_eq_some_iff.1 hj).1 hnd).1 (hj.trans hi.symm)
    subst this
    exact ⟨rfl, rfl⟩

theorem find_miss (xb : Nat) (iv : Value) (L : List Rec) (last k : Int) (w : World) (h : RefAt w xb iv L last) (hno : ∀ r ∈ L, r.id ≠ k) :
    Calls Tryz.prog 21 #[.pointer (some ⟨xb, 0, none⟩), .int .i64 k] w fun e w' => e = .returned (.int .i64 (-1)) ∧ w' = w := by
  refine (find_any xb iv L last k w h).mono ?_
  rintro e w' ⟨rfl, h1 | ⟨j, r', rfl, hj, he⟩⟩
  · exact ⟨h1.1, rfl⟩
  · exact absurd he (hno r' (List.mem_of_getElem? hj))

theorem rdead_miss (xb : Nat) (iv : Value) (L : List Rec) (last k : Int) (w : World) (h : RefAt w xb iv L last) (hno : ∀ r ∈ L, r.id ≠ k) :
    Calls Tryz.prog 24 #[.pointer (some ⟨xb, 0, none⟩), .int .i64 k] w fun e w' => e = .returned (.tuple #[.int .u64 0, .bool false]) ∧ w' = w := by
  have HS := Lib.hid (And.intro h hno)
  clear h hno
  go_enter Tryz.func24, Tryz.ntmps24
  go_wp2_with fail
  refine (find_miss xb iv L last k _ HS.out.1 HS.out.2).mono ?_
  rintro e w1 ⟨rfl, rfl⟩
  go_wp2_with fail
  refine bodyPost_ret_by (by simp [results]; rfl) rfl ?_
  exact ⟨rfl, rfl⟩

set_option maxHeartbeats 1000000 in
set_option maxRecDepth 100000 in
theorem rdead_hit (xb : Nat) (iv : Value) (L : List Rec) (last : Int) (q : Rec) (w : World) (h : RefAt w xb iv L last) (hwd : Wood L last) (hq : q ∈ L) :
    Calls Tryz.prog 24 #[.pointer (some ⟨xb, 0, none⟩), .int .i64 q.id] w fun e w' => ∃ d, e = .returned (.tuple #[.int .u64 d, .bool true]) ∧ Dl L q.id d ∧ w' = w := by
  have hlen := h.len
  have HWD := Lib.hid hwd
  clear hwd
  obtain ⟨i, hi⟩ := List.mem_iff_getElem?.1 hq
  have hil := (List.getElem?_eq_some_iff.1 hi).1
  obtain ⟨n, hn⟩ : ∃ n, L.length = n := ⟨_, rfl⟩
  obtain ⟨g, cap, rfl⟩ := h.form (by omega)
  have c0 := h.hcell.1
  rw [hn] at h c0 hlen hil
  have HS := Lib.hid (And.intro h (And.intro hn (And.intro hq hi)))
  clear h hn hq hi
  go_enter Tryz.func24, Tryz.ntmps24
  go_wp2_with fail
  refine (find_hit xb _ L last i q _ HS.out.1 HS.out.2.2.2).mono ?_
  rintro e w1 ⟨rfl, rfl⟩
  rename World => w
  have p0 : ¬ ((i : Int) < 0) := by omega
  go_wp2_with fail
  go_loopg [6, 7] (q.id.toNat + 2) (fun gg s6 s7 wr => wr = w ∧ ((∃ (m : Rec) (j : Nat) (acc : Int), s6 = .int .i64 j ∧ s7 = .int .u64 acc ∧ m.id.toNat + 1 < gg ∧ j < n ∧ (0 ≤ acc ∧ acc ≤ 18446744073709551615) ∧ Hid (L[j]? = some m ∧ ∀ d, Dl L m.id d → Dl L q.id (min acc d))) ∨ ∃ acc : Int, s6 = .int .i64 (-1) ∧ s7 = .int .u64 acc ∧ 0 < gg ∧ Hid (Dl L q.id acc)))
  case atStart =>
    refine ⟨rfl, .inl ⟨q, i, 18446744073709551615, rfl, rfl, by omega, hil, by omega, HS.out.2.2.2, fun d hd => ?_⟩⟩
    have h1 := Dl.le HWD.out HS.out.2.2.1 hd
    have h2 := HWD.out.due q HS.out.2.2.1
    rw [show min 18446744073709551615 d = d by omega]
    exact hd
  case round =>
    obtain ⟨rfl, ⟨m, j, acc, rfl, rfl, hgg, hjn, hacc, HR⟩ | ⟨acc, rfl, rfl, hgg, HR⟩⟩ := hrel
    · have a1 := (HS.out.1.ecell HR.out.1).2.1
      have a2 := (HS.out.1.ecell HR.out.1).2.2.1
      have hm := List.mem_of_getElem? HR.out.1
      have hmd := HWD.out.due m hm
      have hmi := HWD.out.id m hm
      have q1 : (0 : Int) ≤ (j : Int) := by omega
      have q2 : (j : Int) < (n : Int) := by omega
      rcases HWD.out.par m hm with hp | ⟨hlt, p, hp, hpe⟩
      · rw [hp] at a1
        have HM := Lib.hid (And.intro hm hp)
        clear hm hp
        go_wp2_with fail
        refine (find_miss xb _ L last 0 _ HS.out.1 (fun r hr => by have := HWD.out.id r hr; omega)).mono ?_
        rintro e w3 ⟨rfl, rfl⟩
        go_wp2_with fail
        go_roundg 1
        case measure => omega
        case rel =>
          refine ⟨rfl, .inr ⟨min acc m.due, rfl, rfl, by omega, ?_⟩⟩
          exact HR.out.2 m.due (.root m HM.out.1 HM.out.2)
      · obtain ⟨jp, hjp⟩ := List.mem_iff_getElem?.1 hp
        have hjpl := (List.getElem?_eq_some_iff.1 hjp).1
        have hpd := HWD.out.due p hp
        have hpi := HWD.out.id p hp
        rw [HS.out.2.1] at hjpl
        rw [← hpe] at a1
        have HM := Lib.hid (And.intro hm (And.intro hp (And.intro hpe hjp)))
        clear hm hp hjp hpe
        have hlt' : p.id < m.id := by rw [HM.out.2.2.1]; exact hlt
        clear hlt
        go_wp2_with fail
        refine (find_hit xb _ L last jp p _ HS.out.1 HM.out.2.2.2).mono ?_
        rintro e w3 ⟨rfl, rfl⟩
        go_wp2_with fail
        go_roundg (m.id.toNat + 1)
        case measure => omega
        case rel =>
          refine ⟨rfl, .inl ⟨p, jp, min acc m.due, rfl, rfl, by omega, hjpl, by omega, HM.out.2.2.2, fun d hd => ?_⟩⟩
          rw [HM.out.2.2.1] at hd
          have h2 := HR.out.2 _ (.step m HM.out.1 (by rw [← HM.out.2.2.1]; omega) d hd)
          rw [show min acc (min m.due d) = min (min acc m.due) d by omega] at h2
          exact h2
    · go_wp2_with fail
      refine bodyPost_ret_by (by simp [results]; rfl) rfl ?_
      exact ⟨acc, rfl, HR.out, rfl⟩

end Go.Proofs.YtbgddldkpjeieaaGreat
