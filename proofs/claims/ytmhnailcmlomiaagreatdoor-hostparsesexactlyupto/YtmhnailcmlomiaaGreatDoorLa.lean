/-
  FRAME PARTS: what the row's listed variables and the world's shape give the walks; the wrap that keeps both; the witness's heap; no walk.
  Conditions: as each theorem says.
  FRAME PARTS: how slices of unsigned numbers, bytes, strings that came in are told to the walks; no walk.
  Conditions: as each theorem says.
-/
import Derived.Test.YtmhnailcmlomiaaGreatDoorH3
import Derived.Stop.LaidErr
import Derived.Lib.LaidTab
import Derived.LaidMore
import Derived.HandedShaped
import Derived.Shelf.Vars
import Derived.MakeChecks
import Derived.ProofKit
import Derived.Test.YtmhnailcmlomiaaGreatDoorW
import Derived.OpenShut
import Derived.ChangeMaps5
namespace Go.Proofs.YtmhnailcmlomiaaGreatDoor
open Go.ChangeShapes Go.WideShapes Go.ChangeAt Go.RowKit
set_option linter.unusedVariables false

/-- The listed variables of every row of this seat. -/
abbrev laid5 : List (String × DataW Unit) := [("math/bits.deBruijn32tab", Rows.laid_math_bits_deBruijn32tab), ("math/bits.deBruijn64tab", Rows.laid_math_bits_deBruijn64tab), ("internal/strconv.uint64pow10", Rows.laid_internal_strconv_uint64pow10), ("strconv.ErrRange", Rows.laid_strconv_ErrRange), ("strconv.ErrSyntax", Rows.laid_strconv_ErrSyntax)]

theorem own : ownKnob Tryz.prog.godebug = none := by kernel_rfl
theorem laidOut : laidOutB Tryz.prog = true := by kernel_rfl

theorem star123 : "*errors.errorString" = "*" ++ "errors.errorString" := by decide
theorem row123 (u : TypeId) (h : Tryz.prog.typeName? 3 u = some "*errors.errorString") : u = 149 :=
  typeName_ptr_named (nm := "errors.errorString") (by rw [← star123]; kernel_rfl) (by kernel_rfl) (by decide) u (by rw [← star123]; exact h)
theorem if80 : Tryz.prog.underlying 86 = some (.interface #[("Error", 119)]) := by kernel_rfl
theorem str125 : Tryz.prog.underlying 151 = some (.struct #[{ name := "s", type := 9, offset := 0, embedded := false, tag := "", pkgPath := "errors", byteOffset := 0 }]) := by kernel_rfl

def litOf : DataW Unit → Int
  | .lit (.int _ v) => v
  | _ => 0
def tab64 : List Int := match Rows.laid_math_bits_deBruijn64tab (H := Unit) with
  | .agg l => l.map litOf
  | _ => []

theorem tab_cell {W : World} {n : String} {k : IntKind} {zs : List Int} {g i : Nat} {x : List (DataW Unit)} {v : Int} (h : Lib.TabIs Tryz.prog W n k zs) (hg : Tryz.prog.globalNamed n = some g) (hx : Lib.tabData (H := Unit) k zs = .agg x) (hv : x[i]? = some (.lit (.int k v))) : W.cell? ⟨g, i, none⟩ = some (.int k v) := by
  unfold Lib.tabData at hx
  obtain rfl := DataW.agg.inj hx
  rw [List.getElem?_map] at hv
  obtain ⟨z, hz, e⟩ := Option.map_eq_some_iff.1 hv
  cases e
  rw [h.cell hg i (List.getElem?_eq_some_iff.1 hz).1]
  simp [List.getD, hz]

set_option maxRecDepth 100000 in
theorem gl_of {W : World} (h : laidMetH Tryz.prog laid5 W) (hsh : W.ShapedOpen Tryz.prog) : Gl W := by
  rw [MakeChecks.laidMetH_plain _ _ _ (by kernel_rfl)] at h
  have h2 : laidMet Tryz.prog (("math/bits.deBruijn64tab", Lib.tabData .u8 tab64) :: laid5.tail.tail) W := h.tail
  have t2 := Lib.tabIs_of_head (g := 5) (t := 153) (e := 5) (n := 64) (by kernel_rfl) (by kernel_rfl) (by kernel_rfl) Tryz.underlying5 (by kernel_rfl) (by kernel_rfl) h2
  have h3 : laidMet Tryz.prog (("internal/strconv.uint64pow10", Lib.tabData .u64 Lib.pow10Tab) :: laid5.tail.tail.tail) W := h.tail.tail
  have t3 := Lib.tabIs_of_head (g := 1) (t := 134) (e := 109) (n := 20) (by kernel_rfl) (by kernel_rfl) (by kernel_rfl) (by kernel_rfl) (by kernel_rfl) (by kernel_rfl) h3
  have h4 := h.tail.tail.tail
  have h5 := h4.tail
  obtain ⟨a4, s4, hv4, -, -, -⟩ := laid_sentinel (g := 3) (ti := 86) (tp := 149) (te := 151) (ts := 9) h4 (by kernel_rfl) (by kernel_rfl) if80 row123 (by kernel_rfl) str125 rfl rfl (by kernel_rfl) (by kernel_rfl) (by kernel_rfl)
  obtain ⟨a5, s5, hv5, -, -, -⟩ := laid_sentinel (g := 2) (ti := 86) (tp := 149) (te := 151) (ts := 9) h5 (by kernel_rfl) (by kernel_rfl) if80 row123 (by kernel_rfl) str125 rfl rfl (by kernel_rfl) (by kernel_rfl) (by kernel_rfl)
  refine ⟨⟨?_, ?_, ?_, ?_, ?_⟩, t3⟩
  · exact cell_of_shapedOpen_int hsh (t := 3) (zero := #[.int .i64 0]) (of_decide_eq_true (by kernel_rfl)) (by kernel_rfl) rfl (by kernel_rfl) (by kernel_rfl) Tryz.underlying3
  · exact fun i x hx v hv => tab_cell t3 (by kernel_rfl) (show Lib.tabData (H := Unit) .u64 Lib.pow10Tab = .agg x from hx) hv
  · exact ⟨_, _, by simpa using World.var?_cell (by kernel_rfl : Tryz.prog.globalNamed "strconv.ErrSyntax" = some 2) hv5 0⟩
  · exact ⟨_, _, by simpa using World.var?_cell (by kernel_rfl : Tryz.prog.globalNamed "strconv.ErrRange" = some 3) hv4 0⟩
  · exact fun i x hx v hv => tab_cell t2 (by kernel_rfl) (show Lib.tabData (H := Unit) .u8 tab64 = .agg x from hx) hv

/-- The door's own heap meets the condition. -/
theorem door_met (os : Os) (args : Array Value) : laidMetH Tryz.prog laid5 ((World.doorLaid Tryz.prog 62 os).forCall (fun _ _ => 0) ⟨#[], args, []⟩).memory :=
  laidMetH_of_parts3 (fuel := 8) (laidMet_of_run' 8 (by kernel_rfl) (by kernel_rfl)) (by kernel_rfl) (by kernel_rfl)

section
variable {H : Type} {enc : TypeId × Value → H}
/-- The wrap, with the listed variables and the world's shape. -/
theorem returns_laid_shaped {a : Assume} {C : Checked} {os : Os} {f : FuncId} {fn : Func} {s : ChangeSpec} {conds : List PathCond} {apart fresh handsOn again : Bool} {X : World → Array Value → Prop}
    (hX : ∀ (w w' : World) (args : Array Value), w.heap = w'.heap → X w args → X w' args)
    (own : ownKnob C.prog.godebug = none) (started : os.Started) (noInit : C.prog.inits.idxOf? f = none) (hfn : C.prog.funcs[f]? = some fn)
    (witness : ∃ (w : World) (tape : Tape) (i : Input), w.os = os ∧ (w.forCall tape i).Shaped C.prog ∧ i.vars = [] ∧ Input.okWide C.prog (w.forCall tape i) .any w.heap.size f i ∧
      ((s.pre enc C.prog fn conds apart (w.forCall tape i).memory i.args ∧ X (w.forCall tape i).memory i.args) ∧ sizedMet enc C.prog fn (OpenSpec.ofChange s) apart (w.forCall tape i).memory i.args) ∧ a.holds C.prog (lone (Frame.enter C.prog f i.args .normal) [] (w.forCall tape i)))
    (contract : ∀ (W : World) (base : Nat) (args : Array Value) (ds gs : List (DataW H)) (before : List MemPlace),
      (∀ (j : Nat) t v, fn.params[j]? = some t → args[j]? = some v → Value.okWide C.prog W .any base t v) →
      DataW.Whole enc C.prog fn.params.toList s.vars apart W args.toList ds gs before →
      (DataW.weightsEach C.prog (fn.params.toList ++ s.plain.varTypes C.prog) (ds ++ gs)).all (· ≤ reachBytes) = true → X W args → W.ShapedOpen C.prog →
      Calls C.prog f args W fun e W' => ∃ v, e = .returned v ∧ s.post enc C.prog fn apart fresh handsOn again W args v W') :
    ReturnsInHanded a C os f .any (fun w args => (s.pre enc C.prog fn conds apart w args ∧ X w args) ∧ sizedMet enc C.prog fn (OpenSpec.ofChange s) apart w args) (s.post enc C.prog fn apart fresh handsOn again) := by
  refine returnsInHanded_of_calls own started noInit witness ?_
  intro w tape i _ hsh _ hok hpre _
  obtain ⟨_, _, _, fn', hfn', _, _, _, _, hval⟩ := hok
  have e : fn' = fn := Option.some.inj (hfn'.symm.trans hfn)
  subst e
  obtain ⟨⟨⟨ds, gs, before, hw, hc⟩, hx⟩, hz⟩ := hpre
  have hw' := DataW.Whole.of_heap (w' := w.forCall tape i) (by rfl) hw
  refine (contract (w.forCall tape i) w.heap.size i.args ds gs before hval hw' (hz.weights hw) (hX _ _ _ (by rfl) hx) hsh).mono fun e W' ⟨v, he, hp⟩ => ?_
  subst he
  exact ChangeSpec.post_blind hp
end
end Go.Proofs.YtmhnailcmlomiaaGreatDoor
namespace Go.Proofs.YtmhnailcmlomiaaGreatDoor
open Go.ChangeShapes Go.WideShapes Go.ChangeAt Go.RowKit
set_option linter.unusedVariables false

theorem open_nums {H : Type} {enc : TypeId × Value → H} {w : World} {base : Nat} {held : Bool} {k : IntKind} {t e : TypeId} {a : Option Addr} {len cap : Nat} {d : DataW H} {ps : List MemPlace}
    (ht : Tryz.prog.underlying t = some (.slice e)) (he : Tryz.prog.underlying e = some (.int k)) (hc : Tryz.prog.cellsOf e = 1) (hk : ∀ n : Int, (Lit.int k n).wf = true → 0 ≤ n)
    (hd : DataW.Trod enc Tryz.prog w base (fun _ => true) held t (.slice a len cap) d ps) : ∃ gs : List Nat, At w a (nums k gs) ∧ gs.length = len ∧ len ≤ cap ∧ (a = none → cap = 0) ∧ ∀ g ∈ gs, (Lit.int k (g : Nat)).wf = true := by
  obtain ⟨fuel, hf⟩ := hd
  rcases open_ints ht he hc hf with ⟨hcs, _⟩ | ⟨x, l, c, zs, hcs, _, hl, hm, hz, _, hcell, hwz⟩
  · simp [Value.cells] at hcs
    obtain ⟨rfl, rfl, rfl⟩ := hcs
    exact ⟨[], At.nil _ _, rfl, Nat.le_refl _, fun _ => rfl, fun g hg => by cases hg⟩
  · simp [Value.cells] at hcs
    obtain ⟨rfl, rfl, rfl⟩ := hcs
    have hz' : zs.length = cap := by simpa using hz
    refine ⟨(zs.take len).map Int.toNat, ?_, by rw [List.length_map, List.length_take]; omega, hl, (fun h => by cases h), ?_⟩
    · intro i v hv
      rw [nums, List.getElem?_map, List.getElem?_map, List.getElem?_take] at hv
      split at hv
      · rename_i hil
        have hi : i < zs.length := by omega
        rw [List.getElem?_eq_getElem hi] at hv
        have h0 := hk _ (hwz _ (List.getElem_mem hi))
        have hcc := hcell i hi
        have hsp := World.cell?_spot (hcell 0 (by omega))
        obtain ⟨b, off, spot⟩ := x
        cases spot with
        | none =>
          refine ⟨b, off, rfl, ?_⟩
          rw [Go.WideShapes.add_plain] at hcc
          have hv' : v = Value.int k ((zs[i].toNat : Nat) : Int) := (Option.some.inj hv).symm
          have he' : ((zs[i].toNat : Nat) : Int) = zs[i] := by omega
          rw [hv', he', hcc, List.getD, List.getElem?_eq_getElem hi]
          rfl
        | some s => simp [Addr.add] at hsp
      · cases hv
    · intro g hg
      obtain ⟨z, hz1, rfl⟩ := List.mem_map.1 hg
      have hw := hwz z (List.mem_of_mem_take hz1)
      rw [show ((z.toNat : Nat) : Int) = z by have := hk z hw; omega]
      exact hw
theorem wf_u16 {n : Int} (h : (Lit.int .u16 n).wf = true) : 0 ≤ n := (bounds_u16 h).1
theorem wf_u8 {n : Int} (h : (Lit.int .u8 n).wf = true) : 0 ≤ n := (bounds_u8 h).1
theorem u16_lt {gs : List Nat} (h : ∀ g ∈ gs, (Lit.int .u16 (g : Nat)).wf = true) : ∀ g ∈ gs, g < 65536 := fun g hg => by have := (bounds_u16 (h g hg)).2; omega
theorem u8_lt {gs : List Nat} (h : ∀ g ∈ gs, (Lit.int .u8 (g : Nat)).wf = true) : ∀ g ∈ gs, g < 256 := fun g hg => by have := (bounds_u8 (h g hg)).2; omega
theorem u8_nat {z : Int} (h : (Lit.int .u8 z).wf = true) : ∃ n : Nat, z = n ∧ n < 256 := ⟨z.toNat, by have := (bounds_u8 h).1; omega, by have := bounds_u8 h; omega⟩
end Go.Proofs.YtmhnailcmlomiaaGreatDoor
