/-
  CONTRACT of heapOrdered over this seat's translation: true where the heap is in order and holds what the reference heap holds.
  Conditions: both lie in memory as HeapAt and RefAt say.
-/
import Derived.Test.YtbobokhlcbojkaaRef3
import Derived.Deep.RegionHeld3
import Derived.OwnWalk
namespace Go.Proofs.Ytbobokhlcbojkaa
open Go.ChangeShapes Go.WideShapes Go.ChangeAt Go.RowKit Go.Maps
set_option linter.unusedVariables false

theorem same_ent {L : List Ent} (h : L.Pairwise (fun a b => a.id < b.id)) {e f : Ent} {k : Nat} (he : e ∈ L) (hk : L[k]? = some f) (hid : f.id = e.id) : f = e := by
  obtain ⟨j, hj⟩ := mem_get he
  rcases Nat.lt_trichotomy j k with h1 | h1 | h1
  · have := inc_get h hj hk h1; omega
  · subst h1; rw [hj] at hk; cases hk; rfl
  · have := inc_get h hk hj h1; omega

theorem find_hit {w0 w : World} {xb : Nat} {iv : Value} {L : List Ent} {last : Int} {k : Nat} {e : Ent} (x : RefAt w0 xb iv L last) (hf : Fr No w0 w) (hk : L[k]? = some e) :
    Calls Try.prog 10 #[.pointer (some ⟨xb, 0, none⟩), .int .i64 e.id] w fun r w' => r = .returned (.int .i64 k) ∧ w' = w := by
  refine (find_any xb iv L last e.id w (x.frNo hf)).mono ?_
  rintro r w1 ⟨rfl, h | ⟨i, en, rfl, hi, hid⟩⟩
  · exact absurd rfl (h.2 k e hk)
  · refine ⟨?_, rfl⟩
    rcases Nat.lt_trichotomy i k with h1 | h1 | h1
    · have := inc_get x.lst.inc hi hk h1; omega
    · rw [h1]
    · have := inc_get x.lst.inc hk hi h1; omega

theorem app_fr {w wr w3 : World} {v : Value} {m : Nat} {xs : List Value} (h : Fr No w wr) (hown : wr.ownsRow w.heap.size 3 1 v m xs) (o : Obj) (hg : (wr.alloc o).grownBy w3 v.ownBlock) : Fr No w w3 :=
  (h.trans (Fr.alloc No wr o)).ofNew (T := fun k => v.ownBlock = some k) (Fr.grown hg (fun k hk => hk)) (fun k hk => .inr (hown.lt k hk).1)

theorem app_row {A : List Ent} {j : Nat} {e : Ent} (h : A[j]? = some e) : (A.take j).map (fun e => Value.int .i64 e.id) ++ [Value.int .i64 e.id] = (A.take (j + 1)).map (fun e => Value.int .i64 e.id) := by
  rw [List.take_add_one, h, List.map_append]; rfl

set_option maxHeartbeats 8000000 in
set_option maxRecDepth 1000000 in
theorem heapOrdered_any (hb mb xb : Nat) (sv iv : Value) (A L : List Ent) (last last' : Int) (w : World) (h : HeapAt I.V 75 80 w hb mb sv A last) (x : RefAt w xb iv L last') (hp : A.Perm L) (hO : Ordered A) :
    Calls Try.prog 26 #[.pointer (some ⟨hb, 0, none⟩), .pointer (some ⟨xb, 0, none⟩)] w fun e w' => e = .returned (.bool true) ∧ Fr No w w' := by
  have hlen := x.lst.len
  obtain ⟨n, hn⟩ : ∃ n, L.length = n := ⟨_, rfl⟩
  obtain ⟨a, cap, rfl⟩ := x.form0
  rw [hn] at x hlen
  obtain ⟨i0, hi0, hz0, hz1, hz2⟩ := info_parts (show (Try.prog.info? 3).map (fun i => (i.zero, i.size, i.bytes)) = some (some (.int .i64 0), 1, 8) by kernel_rfl)
  have HS := Lib.hid (And.intro h (And.intro x (And.intro hp (And.intro hO (And.intro hn (hp.length_eq.trans hn))))))
  clear h x hp hO hn
  go_enter Try.func26, Try.ntmps26
  go_wp2_with fail
  go_loopg [5, 6] (n + 1) (fun g sv5 si wr => ∃ (i : Nat) (a5 : Option Addr) (c5 : Nat), sv5 = .slice a5 i c5 ∧ si = .int .i64 i ∧ i ≤ n ∧ n - i < g ∧ Hid (Fr No w wr ∧ wr.ownsRow w.heap.size 3 1 (.slice a5 i c5) i ((A.take i).map (fun e => Value.int .i64 e.id))))
  case atStart => exact ⟨0, none, 0, rfl, by go_num, by omega, by omega, Fr.refl _ _, World.ownsRow_nil _ _ _ _⟩
  case round =>
    obtain ⟨i, a5, c5, rfl, rfl, hin, hig, HR⟩ := hrel
    rename World => wo
    have HX := Lib.hid (HS.out.2.1.frNo HR.out.1)
    have HH := Lib.hid (HS.out.1.frNo HR.out.1)
    have c0 := HX.out.hcell.1
    by_cases hi : i < n
    · obtain ⟨ei, gi⟩ : ∃ e, A[i]? = some e := ⟨_, List.getElem?_eq_getElem (by have := HS.out.2.2.2.2.2; omega)⟩
      have HG := Lib.hid gi
      clear gi
      go_wp2_with fail
      refine (I.at_in hb mb sv A last i ei _ HH.out HG.out).mono ?_
      rintro e w1 ⟨rfl, rfl⟩
      go_wp2_with fail
      refine (find_any xb _ L last' ei.id _ HX.out).mono ?_
      rintro e w1 ⟨rfl, hfind⟩
      rename World => wo
      obtain ⟨k, ek, rfl, gk, hk⟩ : ∃ (k : Nat) (en : Ent), e = .returned (.int .i64 k) ∧ L[k]? = some en ∧ en.id = ei.id := by
        rcases hfind with ⟨_, hno⟩ | hyes
        · obtain ⟨j, hj⟩ := mem_get (HS.out.2.2.1.mem_iff.1 (List.mem_of_getElem? HG.out))
          exact absurd rfl (hno j ei hj)
        · exact hyes
      obtain rfl := same_ent HS.out.2.1.lst.inc (HS.out.2.2.1.mem_iff.1 (List.mem_of_getElem? HG.out)) gk hk
      have HK := Lib.hid gk
      clear gk hk hfind
      have pk : ¬ ((k : Int) < 0) := by omega
      go_wp2_with fail
      go_loopg [10] (i + 1) (fun g s wr => ∃ (j : Nat), s = .int .i64 j ∧ j ≤ i ∧ i - j < g ∧ wr = wo)
      case atStart => exact ⟨0, by go_num, by omega, by omega, rfl⟩
      case round =>
        obtain ⟨j, rfl, hji, hjg, rfl⟩ := hrel
        by_cases hj : j < i
        · obtain ⟨ej, gj⟩ : ∃ e, A[j]? = some e := ⟨_, List.getElem?_eq_getElem (by have := HS.out.2.2.2.2.2; omega)⟩
          obtain ⟨g5, cap5, hv5, _⟩ := HR.out.2.form (by omega)
          obtain rfl : a5 = some ⟨g5, 0, none⟩ := by cases hv5; rfl
          have cj : wr.cell? ⟨g5, j, none⟩ = some (.int .i64 ej.id) := by
            rw [HR.out.2.cellAt j (by omega), List.getElem?_map, List.getElem?_take, if_pos hj, gj]; rfl
          have hne : (ej.id == ek.id) = false := by
            have : ¬ ej.id = ek.id := by
              obtain ⟨⟨D, hr, ht⟩, hg⟩ := HS.out.1
              intro e
              have := ht.inj gj HG.out e
              omega
            simpa using this
          have p1 : (0 : Int) ≤ (j : Int) := by omega
          have p2 : (j : Int) < (i : Int) := by omega
          clear gj hv5
          go_wp2_with fail
          go_roundg (i - j)
          case measure => exact hjg
          case rel => exact ⟨j + 1, by go_num, by omega, by omega, rfl⟩
        · obtain rfl : j = i := by omega
          have p2 : ¬ ((j : Int) < (j : Int)) := by omega
          have hbase : w.heap.size ≤ wr.heap.size := HR.out.1.size
          by_cases hj0 : j = 0
          · subst hj0
            have HQ := Lib.hid hi
            go_wp2_with (at_builtin; refine wpList_append_lies _ rfl _ _ _ rfl w.heap.size 3 i0 _ 1 8 Try.underlying46 hi0 hz0 hz1 hz2 rfl (by omega) (.slice a5 0 c5) 0 _ rfl (HR.out.2.alloc _) ⟨wr.heap.size, 0, none⟩ 1 1 [.int .i64 ek.id] rfl rfl (World.news_of_block (cs := #[.int .i64 ek.id]) (t := 3) (fr := (0, 0)) (heap_alloc_new wr _)) (by simp [Value.oneCell']) (by omega) (by unfold maxLen; omega) (by omega) (by simp; omega) (wr.heap.size + 1) (by simp) ?_; intro g6 cap6 w3 hown hgrow hat hlt)
            go_roundg (n - 0)
            case measure => exact hig
            case rel => exact ⟨0 + 1, some ⟨g6, 0, none⟩, cap6, by go_num, by go_num, by omega, by omega, app_fr HR.out.1 HR.out.2 _ hgrow, by rw [← app_row HG.out]; exact hown⟩
          · have hj1 : (0 : Int) < (j : Int) := by omega
            obtain ⟨p, hp⟩ : ∃ p, (j - 1) / 2 = p := ⟨_, rfl⟩
            have hpj : p < j := by omega
            have hq : ((j : Int) - 1).tdiv 2 = (p : Int) := by rw [Int.tdiv_eq_ediv_of_nonneg (by omega)]; omega
            have hwq : IntKind.i64.wrap ((j : Int) - 1) = (j : Int) - 1 := by rw [IntKind.wrap_i64]; omega
            have hwp : IntKind.i64.wrap (p : Int) = (p : Int) := by rw [IntKind.wrap_i64]; omega
            obtain ⟨ep, gp⟩ : ∃ e, A[p]? = some e := ⟨_, List.getElem?_eq_getElem (by have := HS.out.2.2.2.2.2; omega)⟩
            obtain ⟨k2, gk2⟩ := mem_get (HS.out.2.2.1.mem_iff.1 (List.mem_of_getElem? gp))
            have hlt : ¬ ek.lt ep := HS.out.2.2.2.1 j (by omega) ek ep HG.out (by rw [hp]; exact gp)
            have HP := Lib.hid (And.intro gp (And.intro gk2 hlt))
            clear gp gk2 hlt hp
            go_wp2_with (at_builtin; refine wpList_append_lies _ rfl _ _ _ rfl w.heap.size 3 i0 _ 1 8 Try.underlying46 hi0 hz0 hz1 hz2 rfl (by omega) (.slice a5 j c5) j _ rfl (HR.out.2.alloc _) ⟨wr.heap.size, 0, none⟩ 1 1 [.int .i64 ek.id] rfl rfl (World.news_of_block (cs := #[.int .i64 ek.id]) (t := 3) (fr := (0, 0)) (heap_alloc_new wr _)) (by simp [Value.oneCell']) (by omega) (by unfold maxLen; omega) (by omega) (by simp; omega) (wr.heap.size + 1) (by simp) ?_; intro g6 cap6 w3 hown hgrow hat hlt; rw [app_row HG.out] at hown; have H3 := Lib.hid (And.intro hown (app_fr HR.out.1 HR.out.2 _ hgrow)); clear hown hgrow hat hlt)
            have hx3 := HS.out.2.1.frNo H3.out.2
            obtain ⟨g, cap', hv⟩ := hx3.form (by have := HS.out.2.2.2.2.1; omega)
            obtain rfl : a = some ⟨g, 0, none⟩ := by cases hv; rfl
            clear hv c0
            have c3 := hx3.hcell.1
            obtain ⟨e0, e1, e2⟩ := hx3.ecell HK.out
            obtain ⟨q0, q1, q2⟩ := hx3.ecell HP.out.2.1
            obtain ⟨xk, vk⟩ := HS.out.2.1.lst.val k ek HK.out
            obtain ⟨xp, vp⟩ := HS.out.2.1.lst.val k2 ep HP.out.2.1
            rw [vk] at e2
            rw [vp] at q2
            have r0 : w3.cell? ⟨g6, p, none⟩ = some (.int .i64 ep.id) := by
              rw [H3.out.1.cellAt p (by omega), List.getElem?_map, List.getElem?_take, if_pos (by omega), HP.out.1]; rfl
            have HX3 := Lib.hid hx3
            have lk : k < n := by have := (List.getElem?_eq_some_iff.1 HK.out).1; have := HS.out.2.2.2.2.1; omega
            have lk2 : k2 < n := by have := (List.getElem?_eq_some_iff.1 HP.out.2.1).1; have := HS.out.2.2.2.2.1; omega
            have p5 : (0 : Int) ≤ (k : Int) := by omega
            have p6 : (k : Int) < (n : Int) := by omega
            have p7 : (0 : Int) ≤ (k2 : Int) := by omega
            have p8 : (k2 : Int) < (n : Int) := by omega
            have p9 : (0 : Int) ≤ (p : Int) := by omega
            have p10 : (p : Int) < (j : Int) + 1 := by omega
            have m1 := World.new_ne w3 _ c3
            have m2 := World.new_ne w3 _ e0
            have m3 := World.new_ne w3 _ r0
            clear hx3 vk vp
            go_wp2_with fail
            go_region_held3 (fun w' => w'.cell? ⟨xb, 0, none⟩ = some (.slice (some ⟨g, 0, none⟩) n cap) ∧ w'.cell? ⟨g, k * 3, none⟩ = some (.int .i64 ek.id) ∧ w'.cell? ⟨g, k * 3 + 1, none⟩ = some (.int .u64 ek.due) ∧ w'.cell? ⟨g, k * 3 + 2, none⟩ = some (.int .i64 xk) ∧ w'.cell? ⟨g, k2 * 3, none⟩ = some (.int .i64 ep.id) ∧ w'.cell? ⟨g, k2 * 3 + 1, none⟩ = some (.int .u64 ep.due) ∧ w'.cell? ⟨g, k2 * 3 + 2, none⟩ = some (.int .i64 xp) ∧ w'.cell? ⟨g6, p, none⟩ = some (.int .i64 ep.id)) (go_keep) (first | (go_at_call 10; refine (find_hit (w0 := w3) HX3.out (by first | exact Fr.drew _ _ | exact (Fr.alloc _ _ _).trans (Fr.drew _ _) | exact ((Fr.alloc _ _ _).trans (Fr.alloc _ _ _)).trans (Fr.drew _ _)) HP.out.2.1).mono ?_; rintro r w' ⟨rfl, rfl⟩))
            all_goals (
              have hlt := HP.out.2.2
              unfold Ent.lt at hlt
              have n1 : ¬ (ek.due < ep.due) := fun h => hlt (.inl h)
              have hrel : Hid (Fr No w w3 ∧ w3.ownsRow w.heap.size 3 1 (.slice (some ⟨g6, 0, none⟩) (j + 1) cap6) (j + 1) ((A.take (j + 1)).map (fun e => Value.int .i64 e.id))) := ⟨H3.out.2, H3.out.1⟩
              by_cases hdue : ek.due = ep.due
              · have n2 : ¬ (ek.id < ep.id) := fun h => hlt (.inr ⟨hdue, h⟩)
                have n3 : (ek.due == ep.due) = true := by simpa using hdue
                clear hlt hdue c3 e0 e1 e2 q0 q1 q2 r0
                go_wp2_with fail
                go_roundg (n - j)
                case measure => exact hig
                case rel =>
                  refine ⟨j + 1, some ⟨g6, 0, none⟩, cap6, by go_num, by go_num, by omega, by omega, ?_, ?_⟩
                  · first
                      | exact ((hrel.out.1.trans (Fr.alloc _ _ _)).trans (Fr.alloc _ _ _)).trans (Fr.drew _ _)
                  · first
                      | exact (((hrel.out.2.alloc _).alloc _))
              · have n3 : (ek.due == ep.due) = false := by simpa using hdue
                clear hlt hdue c3 e0 e1 e2 q0 q1 q2 r0
                go_wp2_with fail
                go_roundg (n - j)
                case measure => exact hig
                case rel =>
                  refine ⟨j + 1, some ⟨g6, 0, none⟩, cap6, by go_num, by go_num, by omega, by omega, ?_, ?_⟩
                  · first
                      | exact ((hrel.out.1.trans (Fr.alloc _ _ _)).trans (Fr.alloc _ _ _)).trans (Fr.drew _ _)
                  · first
                      | exact (((hrel.out.2.alloc _).alloc _)))
    · obtain rfl : i = n := by omega
      have p2 : ¬ ((i : Int) < (i : Int)) := by omega
      have hAl := Lib.hid HS.out.2.2.2.2.2
      go_wp2_with fail
      refine (I.at_out hb mb sv A last (-1) _ HH.out (Or.inl (by omega))).mono ?_
      rintro e w1 ⟨rfl, rfl⟩
      go_wp2_with fail
      refine (I.at_out hb mb sv A last (i : Int) _ HH.out (Or.inr (by rw [hAl.out]; exact Int.le_refl _))).mono ?_
      rintro e w2 ⟨rfl, rfl⟩
      go_wp2_with fail
      go_ret
      exact ⟨rfl, HR.out.1⟩

end Go.Proofs.Ytbobokhlcbojkaa
