/- From the row's condition to the walks: the table, the library's variable; the lift with both. -/
import Derived.Test.YtibciicpgjgjbaaDoorOPlain
import Derived.ProofKit
import Derived.HandedShaped
import Derived.LaidMore
import Derived.OpenShut
import Derived.Stop.Joined
namespace Go.Proofs.YtibciicpgjgjbaaDoor
open Go.ChangeShapes Go.WideShapes Go.ChangeAt Go.WideMaps Go.WideElems Go.RowKit

def laidNames : List (String × DataW Unit) := Rows.opNamesRow.laid

theorem own : ownKnob Tryd.prog.godebug = none := by kernel_rfl
theorem laidOut : laidOutB Tryd.prog = true := by kernel_rfl
def nmNames : String := (laidNames.map (·.1)).headD Rows.opNamesRow.func
theorem gNames : Tryd.prog.globalNamed nmNames = some 0 := by kernel_rfl
theorem tNames : (Tryd.prog.globals[0]?).map (·.type) = some 37 := by kernel_rfl
theorem cellsS : Tryd.prog.cellsOf 9 = 1 := by kernel_rfl
theorem laidTab {H : Type} : (Rows.laid_bonsai_op_names : DataW H) = .agg (tabL.map fun b => .lit (.string b.data.toList)) := by rfl

theorem door_met (os : Os) (args : Array Value) : laidMetH Tryd.prog laidNames ((World.doorLaid Tryd.prog 400 os).forCall (fun _ _ => 0) ⟨#[], args, []⟩).memory :=
  laidMetH_of_parts3 (fuel := 8) (laidMet_of_run' 8 (by kernel_rfl) (by kernel_rfl)) (by kernel_rfl) (by kernel_rfl)

theorem tab_of_laid {W : World} (h : laidMetH Tryd.prog laidNames W) : Tab W := by
  rw [MakeChecks.laidMetH_plain _ _ _ (by kernel_rfl)] at h
  obtain ⟨ps, ⟨g0, t0, cs0, f0, p0, q0, hg0, ht0, hv0, hd0, _, _⟩, _, _⟩ := h
  obtain rfl := Option.some.inj (gNames.symm.trans hg0)
  obtain rfl := Option.some.inj (tNames.symm.trans ht0)
  obtain ⟨xs, m1, rfl, hx1, hlen, hn, hel⟩ := DataW.trod_array Tryd.underlying37 hd0
  simp only [Prod.mk.injEq] at hx1
  have hx := hx1.1
  rw [laidTab, DataW.agg.injEq] at hx
  intro n hn44
  have h1 := hel n hn44
  rw [cellsS, Nat.mul_one] at h1
  obtain ⟨x, hxn⟩ : ∃ x, xs[n]? = some x := ⟨_, List.getElem?_eq_getElem (by omega)⟩
  rw [hxn] at h1
  obtain ⟨s, e1, e2, _⟩ := DataW.trod_string Tryd.underlying9 h1
  have hb : (tabL.map fun b => (DataW.lit (.string b.data.toList) : DataW Unit))[n]? = some x.1 := by
    rw [hx, List.getElem?_map, hxn]; rfl
  rw [List.getElem?_map, Option.map_eq_some_iff] at hb
  obtain ⟨b, hb1, hb2⟩ := hb
  rw [e2] at hb2
  simp only [DataW.lit.injEq, Lit.string.injEq] at hb2
  have e3 : b = s := by
    obtain ⟨⟨l⟩⟩ := b
    obtain ⟨⟨r⟩⟩ := s
    simp only at hb2
    rw [hb2]
  have e4 := congrArg (fun l : List Value => l[0]?) e1
  simp only [List.getElem?_take, List.getElem?_drop, List.getElem?_cons_zero, Nat.add_zero, Nat.zero_lt_one, if_true, Array.getElem?_toList] at e4
  rw [World.var?_cell hg0 hv0 n, e4, List.getD_eq_getElem?_getD, hb1, e3]
  rfl

/-- The wrap of a law whose walk wants the table and the library's variable. -/
theorem lift_both {H : Type} {enc : TypeId × Value → H} {os : Os} {f : FuncId} {fn : Func} {s : ChangeSpec} (started : os.Started) (noInit : Tryd.prog.inits.idxOf? f = none) (hfn : Tryd.prog.funcs[f]? = some fn)
    (args : Array Value)
    (hok : Input.okWideB Tryd.prog ((World.doorLaid Tryd.prog 400 os).forCall (fun _ _ => 0) ⟨#[], args, []⟩) f ⟨#[], args, []⟩ = true)
    (hpre : s.preB enc Tryd.prog fn [] false ((World.doorLaid Tryd.prog 400 os).forCall (fun _ _ => 0) ⟨#[], args, []⟩).memory args 8 = true)
    (hsz : s.sizedB enc Tryd.prog fn false ((World.doorLaid Tryd.prog 400 os).forCall (fun _ _ => 0) ⟨#[], args, []⟩).memory args 8 = true)
    (walk : ∀ (W : World) (base : Nat) (ar : Array Value) (ds gs : List (DataW H)) (before : List MemPlace),
      (∀ (j : Nat) t v, fn.params[j]? = some t → ar[j]? = some v → Value.okWide Tryd.prog W .any base t v) →
      DataW.Whole enc Tryd.prog fn.params.toList s.vars false W ar.toList ds gs before →
      (DataW.weightsEach Tryd.prog (fn.params.toList ++ s.plain.varTypes Tryd.prog) (ds ++ gs)).all (· ≤ reachBytes) = true → Tab W → W.ShapedOpen Tryd.prog →
      Calls Tryd.prog f ar W fun e W' => ∃ v, e = .returned v ∧ s.post enc Tryd.prog fn false true false false W ar v W') :
    ReturnsInHanded {} Tryd.checked os f .any (fun w ar => (s.pre enc Tryd.prog fn [] false w ar ∧ laidMetH Tryd.prog laidNames w) ∧ sizedMet enc Tryd.prog fn (OpenSpec.ofChange s) false w ar) (s.post enc Tryd.prog fn false true false false) := by
  refine returnsInHanded_of_calls (C := Tryd.checked) own started noInit
    (ChangeSpec.witness_shaped (enc := enc) (C := Tryd.checked) (os := os) (X := fun w _ => laidMetH Tryd.prog laidNames w) false (World.doorLaid Tryd.prog 400 os) args 8 rfl (World.shaped_of_RefB (by kernel_rfl) (by kernel_rfl)) hok hpre hsz (door_met os _)) ?_
  intro w tape i _ hsh _ hi hp _
  obtain ⟨_, _, _, fn', hfn', _, _, _, _, hval⟩ := hi
  cases Option.some.inj (hfn'.symm.trans hfn)
  obtain ⟨⟨⟨ds, gs, before, hw, _⟩, hL⟩, hz⟩ := hp
  refine (walk (w.forCall tape i) w.heap.size i.args ds gs before hval (DataW.Whole.of_heap (w' := w.forCall tape i) (by rfl) hw) (hz.weights hw) (tab_of_laid (hL.of_heap (by rfl))) hsh).mono ?_
  rintro e W' ⟨v, rfl, hq⟩
  exact ChangeSpec.post_blind hq

end Go.Proofs.YtibciicpgjgjbaaDoor
