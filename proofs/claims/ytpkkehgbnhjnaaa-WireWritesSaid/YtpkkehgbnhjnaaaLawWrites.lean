/- WireWrites: each number's and text's bytes. -/
import Derived.Test.YtpkkehgbnhjnaaaRef2
import Derived.Test.YtpkkehgbnhjnaaaArgs
import Derived.Deep.RegionHeld3
import Derived.Deep.RegionWith
import Derived.BigRegion
import Derived.Maps.RangeWalk
namespace Go.Proofs.Ytpkkehgbnhjnaaa
open Go.RowKit

theorem wpAnyH_and {P : Program} {ops : Array Oper} {Q : Exit → Act → World → Prop} {md : Region.Mode} {S T : World → Prop} : ∀ (fuel : Nat) (listed : Array Bool) (a : Act) (w : World),
    wpAnyH P md ops Q (fun w => S w ∧ T w) fuel listed a w → wpAnyH P md ops Q S fuel listed a w
  | 0, _, _, _, h => h
  | fuel + 1, _, _, _, h => ⟨h.1, fun i hi => wpOp_mono (fun a' w' h' => ⟨h'.1.1, wpAnyH_and fuel _ a' w' h'.2⟩) (h.2 i hi)⟩

/-- in every later world the call answers these bytes -/
def Says (w : World) (f : FuncId) (args : Array Value) (X : List UInt8) : Prop :=
  ∀ W, Below w.heap.size w W → Calls Try.prog f args W fun e w' => ∃ v, e = .returned v ∧ Own w' W.heap.size v X ∧ Below W.heap.size W w'

theorem Says.at {w W : World} {f : FuncId} {args : Array Value} {X : List UInt8} (h : Says w f args X) (hB : Below w.heap.size w W) :
    Calls Try.prog f args W fun e w' => ∃ v, e = .returned v ∧ Own w' W.heap.size v X ∧ Below W.heap.size W w' := h W hB

theorem conv_later {w w' : World} {B : Nat} {v : Value} {X : List UInt8} (h : Own w B v X) (hb : Below w.heap.size w w') : (convert 22 9 v).run Try.prog w' = .ok (.string (tx X)) w' :=
  conv_rd (h.rd.below hb (.inr fun g hg => (h.lt g hg).2))

set_option maxHeartbeats 4000000 in
set_option maxRecDepth 100000 in
theorem writes_core (v0 : Value) (p1 : Option Addr) (n1 c1 : Nat) (n : Int) (s : ByteArray) (l : List UInt8) (w : World) (X1 X2 X3 : List UInt8) (h1 : n1 ≤ 20) (h3 : s.size ≤ 200) (hl : l.length ≤ 40) (hr : Rd w v0 l)
    (hn1 : -2147483648 ≤ n) (hn2 : n ≤ 2147483647)
    (k10 : Says w 10 #[v0, .slice p1 n1 c1] X1) (k11 : Says w 11 #[v0, .slice p1 n1 c1] X1)
    (k12 : Says w 12 #[v0, .int .i32 n] X2) (k13 : Says w 13 #[v0, .int .i32 n] X2)
    (k14 : Says w 14 #[v0, .string s] X3) (k15 : Says w 15 #[v0, .string s] X3)
    (k16 : ∀ y : Int, -9223372036854775808 ≤ y → y ≤ 9223372036854775807 → Says w 16 #[v0, .int .i64 y] (l ++ two y)) (k17 : ∀ y : Int, -9223372036854775808 ≤ y → y ≤ 9223372036854775807 → Says w 17 #[v0, .int .i64 y] (l ++ two y))
    (y : Int) (hy1 : -9223372036854775808 ≤ y) (hy2 : y ≤ 9223372036854775807) (hy : n1 = 0 ∧ y = 0) :
    Calls Try.prog 3 #[v0, .slice p1 n1 c1, .int .i32 n, .string s] w fun e w' => e = .returned (.bool true) ∧ Below w.heap.size w w' := by
  obtain ⟨p, c, rfl, hrest⟩ := hr
  clear hrest
  obtain ⟨rfl, rfl⟩ := hy
  have hab := bounds_i64 (wf_bits .and .i64 n 131071)
  have hab1 := hab.1
  have hab2 := hab.2
  have K10 := Lib.hid k10
  have K11 := Lib.hid k11
  have K12 := Lib.hid k12
  have K13 := Lib.hid k13
  have K14 := Lib.hid k14
  have K15 := Lib.hid k15
  have K16 := Lib.hid (k16 0 hy1 hy2)
  have K17 := Lib.hid (k17 0 hy1 hy2)
  have K18 := Lib.hid (k16 (bits .and .i64 n 131071) hab1 hab2)
  have K19 := Lib.hid (k17 (bits .and .i64 n 131071) hab1 hab2)
  clear k10 k11 k12 k13 k14 k15 k16 k17 hab hab1 hab2 hy1 hy2
  go_enter Try.func3, Try.ntmps3
  go_wp2_with fail
  refine (known_any _).mono ?_
  rintro e w0 ⟨rfl, hB0⟩
  have hBd := hB0.drew
  clear hB0
  go_wp2_with fail
  refine wp_region_held_drew (S := fun _ => True) (by kernel_rfl) trivial (fun hHeld => ?_)
  refine wpAnyH_take (i := 0) (oi := _) (v := ?_) (by rfl) (by kernel_rfl) (by kernel_rfl) (by kernel_rfl) (by intro _ _ _ h; exact h) (Or.inl ⟨by rfl, fun W hSw => ?_⟩) hHeld ?_
  rotate_left 1
  · (clear hSw; first | (go_simp; done) | (go_simp; with_reducible rfl))
  try go_frame
  refine wpAnyH_take (i := 1) (oi := _) (v := ?_) (by simp only [List.getElem?_toArray, List.getElem?_cons_succ, List.getElem?_cons_zero]; rfl) (by kernel_rfl) (by kernel_rfl) (by kernel_rfl) (by intro _ _ _ h; exact h) (Or.inl ⟨by rfl, fun W hSw => ?_⟩) hHeld ?_
  rotate_left 1
  · (clear hSw; first | (go_simp; done) | (go_simp; with_reducible rfl))
  try go_frame
  refine wpAnyH_take (i := 4) (oi := _) (v := ?_) (by simp only [List.getElem?_toArray, List.getElem?_cons_succ, List.getElem?_cons_zero]; rfl) (by kernel_rfl) (by kernel_rfl) (by kernel_rfl) (by intro _ _ _ h; exact h) (Or.inl ⟨by rfl, fun W hSw => ?_⟩) hHeld ?_
  rotate_left 1
  · (clear hSw; first | (go_simp; done) | (go_simp; with_reducible rfl))
  try go_frame
  refine wpAnyH_take (i := 5) (oi := _) (v := ?_) (by simp only [List.getElem?_toArray, List.getElem?_cons_succ, List.getElem?_cons_zero]; rfl) (by kernel_rfl) (by kernel_rfl) (by kernel_rfl) (by intro _ _ _ h; exact h) (Or.inl ⟨by rfl, fun W hSw => ?_⟩) hHeld ?_
  rotate_left 1
  · (clear hSw; first | (go_simp; done) | (go_simp; with_reducible rfl))
  try go_frame
  refine wpAnyH_ready (rs := [2]) (by kernel_rfl) (by simp) ?_
  refine AllReadyH.cons (o := _) (by simp only [List.getElem?_toArray, List.getElem?_cons_succ, List.getElem?_cons_zero]; rfl) (fun K hK => ?_) AllReadyH.nil
  clear hHeld
  go_simp
  refine (K10.out.at hBd).mono ?_
  rintro e w1 ⟨u1, rfl, o1, b1⟩
  have hB1 : Below w.heap.size w w1 := hBd.trans (b1.mono hBd.size)
  refine hK.out _ _ trivial (fun hHeld => ?_)
  clear hK K b1 hBd
  try go_frame
  refine wpAnyH_and (T := fun W => (convert 22 9 u1).run Try.prog W = .ok (.string (tx (X1))) W) _ _ _ _ ?_
  replace hHeld := And.intro hHeld (conv_rd o1.rd)
  refine wpAnyH_take (i := 3) (oi := _) (v := ?_) (by simp only [List.getElem?_toArray, List.getElem?_cons_succ, List.getElem?_cons_zero]; rfl) (by kernel_rfl) (by kernel_rfl) (by kernel_rfl) (by intro _ _ _ h; exact h) (Or.inl ⟨by rfl, fun W hSw => ?_⟩) hHeld ?_
  rotate_left 1
  · (have hT := hSw.2; clear hSw; first | (go_simp; done) | (go_simp; with_reducible rfl))
  try go_frame
  refine wpAnyH_ready (rs := [6]) (by kernel_rfl) (by simp) ?_
  refine AllReadyH.cons (o := _) (by simp only [List.getElem?_toArray, List.getElem?_cons_succ, List.getElem?_cons_zero]; rfl) (fun K hK => ?_) AllReadyH.nil
  clear hHeld
  go_simp
  refine (K11.out.at hB1).mono ?_
  rintro e w2 ⟨u2, rfl, o2, b2⟩
  have hB2 : Below w.heap.size w w2 := hB1.trans (b2.mono hB1.size)
  replace o1 := o1.below b2 (fun g hg => (o1.lt g hg).2)
  refine hK.out _ _ ⟨trivial, conv_rd o1.rd⟩ (fun hHeld => ?_)
  clear hK K b2 hB1
  try go_frame
  refine wpAnyH_and (T := fun W => (convert 22 9 u2).run Try.prog W = .ok (.string (tx (X1))) W) _ _ _ _ ?_
  replace hHeld := And.intro hHeld (conv_rd o2.rd)
  refine wpAnyH_take (i := 7) (oi := _) (v := ?_) (by simp only [List.getElem?_toArray, List.getElem?_cons_succ, List.getElem?_cons_zero]; rfl) (by kernel_rfl) (by kernel_rfl) (by kernel_rfl) (by intro _ _ _ h; exact h) (Or.inl ⟨by rfl, fun W hSw => ?_⟩) hHeld ?_
  rotate_left 1
  · (have hT := hSw.2; clear hSw; first | (go_simp; done) | (go_simp; with_reducible rfl))
  try go_frame
  refine wpAnyH_take (i := 8) (oi := _) (v := ?_) (by simp only [List.getElem?_toArray, List.getElem?_cons_succ, List.getElem?_cons_zero]; rfl) (by kernel_rfl) (by kernel_rfl) (by kernel_rfl) (by intro _ _ _ h; exact h) (Or.inl ⟨by rfl, fun W hSw => ?_⟩) hHeld ?_
  rotate_left 1
  · (clear hSw; first | (go_simp; done) | (go_simp; with_reducible rfl))
  try go_frame
  refine wpAnyH_take (i := 9) (oi := _) (v := ?_) (by simp only [List.getElem?_toArray, List.getElem?_cons_succ, List.getElem?_cons_zero]; rfl) (by kernel_rfl) (by kernel_rfl) (by kernel_rfl) (by intro _ _ _ h; exact h) (Or.inl ⟨by rfl, fun W hSw => ?_⟩) hHeld ?_
  rotate_left 1
  · (clear hSw; first | (go_simp; done) | (go_simp; with_reducible rfl))
  try go_frame
  refine wpAnyH_take (i := 10) (oi := _) (v := ?_) (by simp only [List.getElem?_toArray, List.getElem?_cons_succ, List.getElem?_cons_zero]; rfl) (by kernel_rfl) (by kernel_rfl) (by kernel_rfl) (by intro _ _ _ h; exact h) (Or.inl ⟨by rfl, fun W hSw => ?_⟩) hHeld ?_
  rotate_left 1
  · (clear hSw; first | (go_simp; done) | (go_simp; with_reducible rfl))
  try go_frame
  refine wpAnyH_take (i := 11) (oi := _) (v := ?_) (by simp only [List.getElem?_toArray, List.getElem?_cons_succ, List.getElem?_cons_zero]; rfl) (by kernel_rfl) (by kernel_rfl) (by kernel_rfl) (by intro _ _ _ h; exact h) (Or.inl ⟨by rfl, fun W hSw => ?_⟩) hHeld ?_
  rotate_left 1
  · (clear hSw; first | (go_simp; done) | (go_simp; with_reducible rfl))
  try go_frame
  refine wpAnyH_take (i := 14) (oi := _) (v := ?_) (by simp only [List.getElem?_toArray, List.getElem?_cons_succ, List.getElem?_cons_zero]; rfl) (by kernel_rfl) (by kernel_rfl) (by kernel_rfl) (by intro _ _ _ h; exact h) (Or.inl ⟨by rfl, fun W hSw => ?_⟩) hHeld ?_
  rotate_left 1
  · (clear hSw; first | (go_simp; done) | (go_simp; with_reducible rfl))
  try go_frame
  refine wpAnyH_take (i := 15) (oi := _) (v := ?_) (by simp only [List.getElem?_toArray, List.getElem?_cons_succ, List.getElem?_cons_zero]; rfl) (by kernel_rfl) (by kernel_rfl) (by kernel_rfl) (by intro _ _ _ h; exact h) (Or.inl ⟨by rfl, fun W hSw => ?_⟩) hHeld ?_
  rotate_left 1
  · (clear hSw; first | (go_simp; done) | (go_simp; with_reducible rfl))
  try go_frame
  refine wpAnyH_ready (rs := [12]) (by kernel_rfl) (by simp) ?_
  refine AllReadyH.cons (o := _) (by simp only [List.getElem?_toArray, List.getElem?_cons_succ, List.getElem?_cons_zero]; rfl) (fun K hK => ?_) AllReadyH.nil
  clear hHeld
  go_simp
  refine (K12.out.at hB2).mono ?_
  rintro e w3 ⟨u3, rfl, o3, b3⟩
  have hB3 : Below w.heap.size w w3 := hB2.trans (b3.mono hB2.size)
  replace o1 := o1.below b3 (fun g hg => (o1.lt g hg).2)
  replace o2 := o2.below b3 (fun g hg => (o2.lt g hg).2)
  refine hK.out _ _ ⟨⟨trivial, conv_rd o1.rd⟩, conv_rd o2.rd⟩ (fun hHeld => ?_)
  clear hK K b3 hB2
  try go_frame
  refine wpAnyH_and (T := fun W => (convert 22 9 u3).run Try.prog W = .ok (.string (tx (X2))) W) _ _ _ _ ?_
  replace hHeld := And.intro hHeld (conv_rd o3.rd)
  refine wpAnyH_take (i := 13) (oi := _) (v := ?_) (by simp only [List.getElem?_toArray, List.getElem?_cons_succ, List.getElem?_cons_zero]; rfl) (by kernel_rfl) (by kernel_rfl) (by kernel_rfl) (by intro _ _ _ h; exact h) (Or.inl ⟨by rfl, fun W hSw => ?_⟩) hHeld ?_
  rotate_left 1
  · (have hT := hSw.2; clear hSw; first | (go_simp; done) | (go_simp; with_reducible rfl))
  try go_frame
  refine wpAnyH_ready (rs := [16]) (by kernel_rfl) (by simp) ?_
  refine AllReadyH.cons (o := _) (by simp only [List.getElem?_toArray, List.getElem?_cons_succ, List.getElem?_cons_zero]; rfl) (fun K hK => ?_) AllReadyH.nil
  clear hHeld
  go_simp
  refine (K13.out.at hB3).mono ?_
  rintro e w4 ⟨u4, rfl, o4, b4⟩
  have hB4 : Below w.heap.size w w4 := hB3.trans (b4.mono hB3.size)
  replace o1 := o1.below b4 (fun g hg => (o1.lt g hg).2)
  replace o2 := o2.below b4 (fun g hg => (o2.lt g hg).2)
  replace o3 := o3.below b4 (fun g hg => (o3.lt g hg).2)
  refine hK.out _ _ ⟨⟨⟨trivial, conv_rd o1.rd⟩, conv_rd o2.rd⟩, conv_rd o3.rd⟩ (fun hHeld => ?_)
  clear hK K b4 hB3
  try go_frame
  refine wpAnyH_and (T := fun W => (convert 22 9 u4).run Try.prog W = .ok (.string (tx (X2))) W) _ _ _ _ ?_
  replace hHeld := And.intro hHeld (conv_rd o4.rd)
  refine wpAnyH_take (i := 17) (oi := _) (v := ?_) (by simp only [List.getElem?_toArray, List.getElem?_cons_succ, List.getElem?_cons_zero]; rfl) (by kernel_rfl) (by kernel_rfl) (by kernel_rfl) (by intro _ _ _ h; exact h) (Or.inl ⟨by rfl, fun W hSw => ?_⟩) hHeld ?_
  rotate_left 1
  · (have hT := hSw.2; clear hSw; first | (go_simp; done) | (go_simp; with_reducible rfl))
  try go_frame
  refine wpAnyH_take (i := 18) (oi := _) (v := ?_) (by simp only [List.getElem?_toArray, List.getElem?_cons_succ, List.getElem?_cons_zero]; rfl) (by kernel_rfl) (by kernel_rfl) (by kernel_rfl) (by intro _ _ _ h; exact h) (Or.inl ⟨by rfl, fun W hSw => ?_⟩) hHeld ?_
  rotate_left 1
  · (clear hSw; first | (go_simp; done) | (go_simp; with_reducible rfl))
  try go_frame
  refine wpAnyH_take (i := 19) (oi := _) (v := ?_) (by simp only [List.getElem?_toArray, List.getElem?_cons_succ, List.getElem?_cons_zero]; rfl) (by kernel_rfl) (by kernel_rfl) (by kernel_rfl) (by intro _ _ _ h; exact h) (Or.inl ⟨by rfl, fun W hSw => ?_⟩) hHeld ?_
  rotate_left 1
  · (clear hSw; first | (go_simp; done) | (go_simp; with_reducible rfl))
  try go_frame
  refine wpAnyH_take (i := 20) (oi := _) (v := ?_) (by simp only [List.getElem?_toArray, List.getElem?_cons_succ, List.getElem?_cons_zero]; rfl) (by kernel_rfl) (by kernel_rfl) (by kernel_rfl) (by intro _ _ _ h; exact h) (Or.inl ⟨by rfl, fun W hSw => ?_⟩) hHeld ?_
  rotate_left 1
  · (clear hSw; first | (go_simp; done) | (go_simp; with_reducible rfl))
  try go_frame
  refine wpAnyH_take (i := 21) (oi := _) (v := ?_) (by simp only [List.getElem?_toArray, List.getElem?_cons_succ, List.getElem?_cons_zero]; rfl) (by kernel_rfl) (by kernel_rfl) (by kernel_rfl) (by intro _ _ _ h; exact h) (Or.inl ⟨by rfl, fun W hSw => ?_⟩) hHeld ?_
  rotate_left 1
  · (clear hSw; first | (go_simp; done) | (go_simp; with_reducible rfl))
  try go_frame
  refine wpAnyH_take (i := 22) (oi := _) (v := ?_) (by simp only [List.getElem?_toArray, List.getElem?_cons_succ, List.getElem?_cons_zero]; rfl) (by kernel_rfl) (by kernel_rfl) (by kernel_rfl) (by intro _ _ _ h; exact h) (Or.inl ⟨by rfl, fun W hSw => ?_⟩) hHeld ?_
  rotate_left 1
  · (clear hSw; first | (go_simp; done) | (go_simp; with_reducible rfl))
  try go_frame
  refine wpAnyH_take (i := 25) (oi := _) (v := ?_) (by simp only [List.getElem?_toArray, List.getElem?_cons_succ, List.getElem?_cons_zero]; rfl) (by kernel_rfl) (by kernel_rfl) (by kernel_rfl) (by intro _ _ _ h; exact h) (Or.inl ⟨by rfl, fun W hSw => ?_⟩) hHeld ?_
  rotate_left 1
  · (clear hSw; first | (go_simp; done) | (go_simp; with_reducible rfl))
  try go_frame
  refine wpAnyH_take (i := 26) (oi := _) (v := ?_) (by simp only [List.getElem?_toArray, List.getElem?_cons_succ, List.getElem?_cons_zero]; rfl) (by kernel_rfl) (by kernel_rfl) (by kernel_rfl) (by intro _ _ _ h; exact h) (Or.inl ⟨by rfl, fun W hSw => ?_⟩) hHeld ?_
  rotate_left 1
  · (clear hSw; first | (go_simp; done) | (go_simp; with_reducible rfl))
  try go_frame
  refine wpAnyH_ready (rs := [23]) (by kernel_rfl) (by simp) ?_
  refine AllReadyH.cons (o := _) (by simp only [List.getElem?_toArray, List.getElem?_cons_succ, List.getElem?_cons_zero]; rfl) (fun K hK => ?_) AllReadyH.nil
  clear hHeld
  go_simp
  refine (K14.out.at hB4).mono ?_
  rintro e w5 ⟨u5, rfl, o5, b5⟩
  have hB5 : Below w.heap.size w w5 := hB4.trans (b5.mono hB4.size)
  replace o1 := o1.below b5 (fun g hg => (o1.lt g hg).2)
  replace o2 := o2.below b5 (fun g hg => (o2.lt g hg).2)
  replace o3 := o3.below b5 (fun g hg => (o3.lt g hg).2)
  replace o4 := o4.below b5 (fun g hg => (o4.lt g hg).2)
  refine hK.out _ _ ⟨⟨⟨⟨trivial, conv_rd o1.rd⟩, conv_rd o2.rd⟩, conv_rd o3.rd⟩, conv_rd o4.rd⟩ (fun hHeld => ?_)
  clear hK K b5 hB4
  try go_frame
  refine wpAnyH_and (T := fun W => (convert 22 9 u5).run Try.prog W = .ok (.string (tx (X3))) W) _ _ _ _ ?_
  replace hHeld := And.intro hHeld (conv_rd o5.rd)
  refine wpAnyH_take (i := 24) (oi := _) (v := ?_) (by simp only [List.getElem?_toArray, List.getElem?_cons_succ, List.getElem?_cons_zero]; rfl) (by kernel_rfl) (by kernel_rfl) (by kernel_rfl) (by intro _ _ _ h; exact h) (Or.inl ⟨by rfl, fun W hSw => ?_⟩) hHeld ?_
  rotate_left 1
  · (have hT := hSw.2; clear hSw; first | (go_simp; done) | (go_simp; with_reducible rfl))
  try go_frame
  refine wpAnyH_ready (rs := [27]) (by kernel_rfl) (by simp) ?_
  refine AllReadyH.cons (o := _) (by simp only [List.getElem?_toArray, List.getElem?_cons_succ, List.getElem?_cons_zero]; rfl) (fun K hK => ?_) AllReadyH.nil
  clear hHeld
  go_simp
  refine (K15.out.at hB5).mono ?_
  rintro e w6 ⟨u6, rfl, o6, b6⟩
  have hB6 : Below w.heap.size w w6 := hB5.trans (b6.mono hB5.size)
  replace o1 := o1.below b6 (fun g hg => (o1.lt g hg).2)
  replace o2 := o2.below b6 (fun g hg => (o2.lt g hg).2)
  replace o3 := o3.below b6 (fun g hg => (o3.lt g hg).2)
  replace o4 := o4.below b6 (fun g hg => (o4.lt g hg).2)
  replace o5 := o5.below b6 (fun g hg => (o5.lt g hg).2)
  refine hK.out _ _ ⟨⟨⟨⟨⟨trivial, conv_rd o1.rd⟩, conv_rd o2.rd⟩, conv_rd o3.rd⟩, conv_rd o4.rd⟩, conv_rd o5.rd⟩ (fun hHeld => ?_)
  clear hK K b6 hB5
  try go_frame
  refine wpAnyH_and (T := fun W => (convert 22 9 u6).run Try.prog W = .ok (.string (tx (X3))) W) _ _ _ _ ?_
  replace hHeld := And.intro hHeld (conv_rd o6.rd)
  refine wpAnyH_take (i := 28) (oi := _) (v := ?_) (by simp only [List.getElem?_toArray, List.getElem?_cons_succ, List.getElem?_cons_zero]; rfl) (by kernel_rfl) (by kernel_rfl) (by kernel_rfl) (by intro _ _ _ h; exact h) (Or.inl ⟨by rfl, fun W hSw => ?_⟩) hHeld ?_
  rotate_left 1
  · (have hT := hSw.2; clear hSw; first | (go_simp; done) | (go_simp; with_reducible rfl))
  try go_frame
  refine wpAnyH_take (i := 29) (oi := _) (v := ?_) (by simp only [List.getElem?_toArray, List.getElem?_cons_succ, List.getElem?_cons_zero]; rfl) (by kernel_rfl) (by kernel_rfl) (by kernel_rfl) (by intro _ _ _ h; exact h) (Or.inl ⟨by rfl, fun W hSw => ?_⟩) hHeld ?_
  rotate_left 1
  · (clear hSw; first | (go_simp; done) | (go_simp; with_reducible rfl))
  try go_frame
  refine wpAnyH_take (i := 30) (oi := _) (v := ?_) (by simp only [List.getElem?_toArray, List.getElem?_cons_succ, List.getElem?_cons_zero]; rfl) (by kernel_rfl) (by kernel_rfl) (by kernel_rfl) (by intro _ _ _ h; exact h) (Or.inl ⟨by rfl, fun W hSw => ?_⟩) hHeld ?_
  rotate_left 1
  · (clear hSw; first | (go_simp; done) | (go_simp; with_reducible rfl))
  try go_frame
  refine wpAnyH_take (i := 31) (oi := _) (v := ?_) (by simp only [List.getElem?_toArray, List.getElem?_cons_succ, List.getElem?_cons_zero]; rfl) (by kernel_rfl) (by kernel_rfl) (by kernel_rfl) (by intro _ _ _ h; exact h) (Or.inl ⟨by rfl, fun W hSw => ?_⟩) hHeld ?_
  rotate_left 1
  · (clear hSw; first | (go_simp; done) | (go_simp; with_reducible rfl))
  try go_frame
  refine wpAnyH_take (i := 32) (oi := _) (v := ?_) (by simp only [List.getElem?_toArray, List.getElem?_cons_succ, List.getElem?_cons_zero]; rfl) (by kernel_rfl) (by kernel_rfl) (by kernel_rfl) (by intro _ _ _ h; exact h) (Or.inl ⟨by rfl, fun W hSw => ?_⟩) hHeld ?_
  rotate_left 1
  · (clear hSw; first | (go_simp; done) | (go_simp; with_reducible rfl))
  try go_frame
  refine wpAnyH_take (i := 33) (oi := _) (v := ?_) (by simp only [List.getElem?_toArray, List.getElem?_cons_succ, List.getElem?_cons_zero]; rfl) (by kernel_rfl) (by kernel_rfl) (by kernel_rfl) (by intro _ _ _ h; exact h) (Or.inl ⟨by rfl, fun W hSw => ?_⟩) hHeld ?_
  rotate_left 1
  · (clear hSw; first | (go_simp; done) | (go_simp; with_reducible rfl))
  try go_frame
  refine wpAnyH_take (i := 36) (oi := _) (v := ?_) (by simp only [List.getElem?_toArray, List.getElem?_cons_succ, List.getElem?_cons_zero]; rfl) (by kernel_rfl) (by kernel_rfl) (by kernel_rfl) (by intro _ _ _ h; exact h) (Or.inl ⟨by rfl, fun W hSw => ?_⟩) hHeld ?_
  rotate_left 1
  · (clear hSw; first | (go_simp; done) | (go_simp; with_reducible rfl))
  try go_frame
  refine wpAnyH_take (i := 37) (oi := _) (v := ?_) (by simp only [List.getElem?_toArray, List.getElem?_cons_succ, List.getElem?_cons_zero]; rfl) (by kernel_rfl) (by kernel_rfl) (by kernel_rfl) (by intro _ _ _ h; exact h) (Or.inl ⟨by rfl, fun W hSw => ?_⟩) hHeld ?_
  rotate_left 1
  · (clear hSw; first | (go_simp; done) | (go_simp; with_reducible rfl))
  try go_frame
  refine wpAnyH_ready (rs := [34]) (by kernel_rfl) (by simp) ?_
  refine AllReadyH.cons (o := _) (by simp only [List.getElem?_toArray, List.getElem?_cons_succ, List.getElem?_cons_zero]; rfl) (fun K hK => ?_) AllReadyH.nil
  clear hHeld
  go_simp
  refine (K16.out.at hB6).mono ?_
  rintro e w7 ⟨u7, rfl, o7, b7⟩
  have hB7 : Below w.heap.size w w7 := hB6.trans (b7.mono hB6.size)
  replace o1 := o1.below b7 (fun g hg => (o1.lt g hg).2)
  replace o2 := o2.below b7 (fun g hg => (o2.lt g hg).2)
  replace o3 := o3.below b7 (fun g hg => (o3.lt g hg).2)
  replace o4 := o4.below b7 (fun g hg => (o4.lt g hg).2)
  replace o5 := o5.below b7 (fun g hg => (o5.lt g hg).2)
  replace o6 := o6.below b7 (fun g hg => (o6.lt g hg).2)
  refine hK.out _ _ ⟨⟨⟨⟨⟨⟨trivial, conv_rd o1.rd⟩, conv_rd o2.rd⟩, conv_rd o3.rd⟩, conv_rd o4.rd⟩, conv_rd o5.rd⟩, conv_rd o6.rd⟩ (fun hHeld => ?_)
  clear hK K b7 hB6
  try go_frame
  refine wpAnyH_and (T := fun W => (convert 22 9 u7).run Try.prog W = .ok (.string (tx (l ++ two 0))) W) _ _ _ _ ?_
  replace hHeld := And.intro hHeld (conv_rd o7.rd)
  refine wpAnyH_take (i := 35) (oi := _) (v := ?_) (by simp only [List.getElem?_toArray, List.getElem?_cons_succ, List.getElem?_cons_zero]; rfl) (by kernel_rfl) (by kernel_rfl) (by kernel_rfl) (by intro _ _ _ h; exact h) (Or.inl ⟨by rfl, fun W hSw => ?_⟩) hHeld ?_
  rotate_left 1
  · (have hT := hSw.2; clear hSw; first | (go_simp; done) | (go_simp; with_reducible rfl))
  try go_frame
  refine wpAnyH_ready (rs := [38]) (by kernel_rfl) (by simp) ?_
  refine AllReadyH.cons (o := _) (by simp only [List.getElem?_toArray, List.getElem?_cons_succ, List.getElem?_cons_zero]; rfl) (fun K hK => ?_) AllReadyH.nil
  clear hHeld
  go_simp
  refine (K17.out.at hB7).mono ?_
  rintro e w8 ⟨u8, rfl, o8, b8⟩
  have hB8 : Below w.heap.size w w8 := hB7.trans (b8.mono hB7.size)
  replace o1 := o1.below b8 (fun g hg => (o1.lt g hg).2)
  replace o2 := o2.below b8 (fun g hg => (o2.lt g hg).2)
  replace o3 := o3.below b8 (fun g hg => (o3.lt g hg).2)
  replace o4 := o4.below b8 (fun g hg => (o4.lt g hg).2)
  replace o5 := o5.below b8 (fun g hg => (o5.lt g hg).2)
  replace o6 := o6.below b8 (fun g hg => (o6.lt g hg).2)
  replace o7 := o7.below b8 (fun g hg => (o7.lt g hg).2)
  refine hK.out _ _ ⟨⟨⟨⟨⟨⟨⟨trivial, conv_rd o1.rd⟩, conv_rd o2.rd⟩, conv_rd o3.rd⟩, conv_rd o4.rd⟩, conv_rd o5.rd⟩, conv_rd o6.rd⟩, conv_rd o7.rd⟩ (fun hHeld => ?_)
  clear hK K b8 hB7
  try go_frame
  refine wpAnyH_and (T := fun W => (convert 22 9 u8).run Try.prog W = .ok (.string (tx (l ++ two 0))) W) _ _ _ _ ?_
  replace hHeld := And.intro hHeld (conv_rd o8.rd)
  refine wpAnyH_take (i := 39) (oi := _) (v := ?_) (by simp only [List.getElem?_toArray, List.getElem?_cons_succ, List.getElem?_cons_zero]; rfl) (by kernel_rfl) (by kernel_rfl) (by kernel_rfl) (by intro _ _ _ h; exact h) (Or.inl ⟨by rfl, fun W hSw => ?_⟩) hHeld ?_
  rotate_left 1
  · (have hT := hSw.2; clear hSw; first | (go_simp; done) | (go_simp; with_reducible rfl))
  try go_frame
  refine wpAnyH_take (i := 40) (oi := _) (v := ?_) (by simp only [List.getElem?_toArray, List.getElem?_cons_succ, List.getElem?_cons_zero]; rfl) (by kernel_rfl) (by kernel_rfl) (by kernel_rfl) (by intro _ _ _ h; exact h) (Or.inl ⟨by rfl, fun W hSw => ?_⟩) hHeld ?_
  rotate_left 1
  · (clear hSw; first | (go_simp; done) | (go_simp; with_reducible rfl))
  try go_frame
  refine wpAnyH_take (i := 41) (oi := _) (v := ?_) (by simp only [List.getElem?_toArray, List.getElem?_cons_succ, List.getElem?_cons_zero]; rfl) (by kernel_rfl) (by kernel_rfl) (by kernel_rfl) (by intro _ _ _ h; exact h) (Or.inl ⟨by rfl, fun W hSw => ?_⟩) hHeld ?_
  rotate_left 1
  · (clear hSw; first | (go_simp; done) | (go_simp; with_reducible rfl))
  try go_frame
  refine wpAnyH_take (i := 42) (oi := _) (v := ?_) (by simp only [List.getElem?_toArray, List.getElem?_cons_succ, List.getElem?_cons_zero]; rfl) (by kernel_rfl) (by kernel_rfl) (by kernel_rfl) (by intro _ _ _ h; exact h) (Or.inl ⟨by rfl, fun W hSw => ?_⟩) hHeld ?_
  rotate_left 1
  · (clear hSw; first | (go_simp; done) | (go_simp; with_reducible rfl))
  try go_frame
  refine wpAnyH_take (i := 43) (oi := _) (v := ?_) (by simp only [List.getElem?_toArray, List.getElem?_cons_succ, List.getElem?_cons_zero]; rfl) (by kernel_rfl) (by kernel_rfl) (by kernel_rfl) (by intro _ _ _ h; exact h) (Or.inl ⟨by rfl, fun W hSw => ?_⟩) hHeld ?_
  rotate_left 1
  · (clear hSw; first | (go_simp; done) | (go_simp; with_reducible rfl))
  try go_frame
  refine wpAnyH_take (i := 44) (oi := _) (v := ?_) (by simp only [List.getElem?_toArray, List.getElem?_cons_succ, List.getElem?_cons_zero]; rfl) (by kernel_rfl) (by kernel_rfl) (by kernel_rfl) (by intro _ _ _ h; exact h) (Or.inl ⟨by rfl, fun W hSw => ?_⟩) hHeld ?_
  rotate_left 1
  · (clear hSw; first | (go_simp; done) | (go_simp; with_reducible rfl))
  try go_frame
  refine wpAnyH_take (i := 45) (oi := _) (v := ?_) (by simp only [List.getElem?_toArray, List.getElem?_cons_succ, List.getElem?_cons_zero]; rfl) (by kernel_rfl) (by kernel_rfl) (by kernel_rfl) (by intro _ _ _ h; exact h) (Or.inl ⟨by rfl, fun W hSw => ?_⟩) hHeld ?_
  rotate_left 1
  · (clear hSw; first | (go_simp; done) | (go_simp; with_reducible rfl))
  try go_frame
  refine wpAnyH_take (i := 48) (oi := _) (v := ?_) (by simp only [List.getElem?_toArray, List.getElem?_cons_succ, List.getElem?_cons_zero]; rfl) (by kernel_rfl) (by kernel_rfl) (by kernel_rfl) (by intro _ _ _ h; exact h) (Or.inl ⟨by rfl, fun W hSw => ?_⟩) hHeld ?_
  rotate_left 1
  · (clear hSw; first | (go_simp; done) | (go_simp; with_reducible rfl))
  try go_frame
  refine wpAnyH_take (i := 49) (oi := _) (v := ?_) (by simp only [List.getElem?_toArray, List.getElem?_cons_succ, List.getElem?_cons_zero]; rfl) (by kernel_rfl) (by kernel_rfl) (by kernel_rfl) (by intro _ _ _ h; exact h) (Or.inl ⟨by rfl, fun W hSw => ?_⟩) hHeld ?_
  rotate_left 1
  · (clear hSw; first | (go_simp; done) | (go_simp; with_reducible rfl))
  try go_frame
  refine wpAnyH_take (i := 50) (oi := _) (v := ?_) (by simp only [List.getElem?_toArray, List.getElem?_cons_succ, List.getElem?_cons_zero]; rfl) (by kernel_rfl) (by kernel_rfl) (by kernel_rfl) (by intro _ _ _ h; exact h) (Or.inl ⟨by rfl, fun W hSw => ?_⟩) hHeld ?_
  rotate_left 1
  · (clear hSw; first | (go_simp; done) | (go_simp; with_reducible rfl))
  try go_frame
  refine wpAnyH_ready (rs := [46]) (by kernel_rfl) (by simp) ?_
  refine AllReadyH.cons (o := _) (by simp only [List.getElem?_toArray, List.getElem?_cons_succ, List.getElem?_cons_zero]; rfl) (fun K hK => ?_) AllReadyH.nil
  clear hHeld
  go_simp
  refine (K18.out.at hB8).mono ?_
  rintro e w9 ⟨u9, rfl, o9, b9⟩
  have hB9 : Below w.heap.size w w9 := hB8.trans (b9.mono hB8.size)
  replace o1 := o1.below b9 (fun g hg => (o1.lt g hg).2)
  replace o2 := o2.below b9 (fun g hg => (o2.lt g hg).2)
  replace o3 := o3.below b9 (fun g hg => (o3.lt g hg).2)
  replace o4 := o4.below b9 (fun g hg => (o4.lt g hg).2)
  replace o5 := o5.below b9 (fun g hg => (o5.lt g hg).2)
  replace o6 := o6.below b9 (fun g hg => (o6.lt g hg).2)
  replace o7 := o7.below b9 (fun g hg => (o7.lt g hg).2)
  replace o8 := o8.below b9 (fun g hg => (o8.lt g hg).2)
  refine hK.out _ _ ⟨⟨⟨⟨⟨⟨⟨⟨trivial, conv_rd o1.rd⟩, conv_rd o2.rd⟩, conv_rd o3.rd⟩, conv_rd o4.rd⟩, conv_rd o5.rd⟩, conv_rd o6.rd⟩, conv_rd o7.rd⟩, conv_rd o8.rd⟩ (fun hHeld => ?_)
  clear hK K b9 hB8
  try go_frame
  refine wpAnyH_and (T := fun W => (convert 22 9 u9).run Try.prog W = .ok (.string (tx (l ++ two (bits .and .i64 n 131071)))) W) _ _ _ _ ?_
  replace hHeld := And.intro hHeld (conv_rd o9.rd)
  refine wpAnyH_take (i := 47) (oi := _) (v := ?_) (by simp only [List.getElem?_toArray, List.getElem?_cons_succ, List.getElem?_cons_zero]; rfl) (by kernel_rfl) (by kernel_rfl) (by kernel_rfl) (by intro _ _ _ h; exact h) (Or.inl ⟨by rfl, fun W hSw => ?_⟩) hHeld ?_
  rotate_left 1
  · (have hT := hSw.2; clear hSw; first | (go_simp; done) | (go_simp; with_reducible rfl))
  try go_frame
  refine wpAnyH_ready (rs := [51]) (by kernel_rfl) (by simp) ?_
  refine AllReadyH.cons (o := _) (by simp only [List.getElem?_toArray, List.getElem?_cons_succ, List.getElem?_cons_zero]; rfl) (fun K hK => ?_) AllReadyH.nil
  clear hHeld
  go_simp
  refine (K19.out.at hB9).mono ?_
  rintro e w10 ⟨u10, rfl, o10, b10⟩
  have hB10 : Below w.heap.size w w10 := hB9.trans (b10.mono hB9.size)
  replace o1 := o1.below b10 (fun g hg => (o1.lt g hg).2)
  replace o2 := o2.below b10 (fun g hg => (o2.lt g hg).2)
  replace o3 := o3.below b10 (fun g hg => (o3.lt g hg).2)
  replace o4 := o4.below b10 (fun g hg => (o4.lt g hg).2)
  replace o5 := o5.below b10 (fun g hg => (o5.lt g hg).2)
  replace o6 := o6.below b10 (fun g hg => (o6.lt g hg).2)
  replace o7 := o7.below b10 (fun g hg => (o7.lt g hg).2)
  replace o8 := o8.below b10 (fun g hg => (o8.lt g hg).2)
  replace o9 := o9.below b10 (fun g hg => (o9.lt g hg).2)
  refine hK.out _ _ ⟨⟨⟨⟨⟨⟨⟨⟨⟨trivial, conv_rd o1.rd⟩, conv_rd o2.rd⟩, conv_rd o3.rd⟩, conv_rd o4.rd⟩, conv_rd o5.rd⟩, conv_rd o6.rd⟩, conv_rd o7.rd⟩, conv_rd o8.rd⟩, conv_rd o9.rd⟩ (fun hHeld => ?_)
  clear hK K b10 hB9
  try go_frame
  refine wpAnyH_and (T := fun W => (convert 22 9 u10).run Try.prog W = .ok (.string (tx (l ++ two (bits .and .i64 n 131071)))) W) _ _ _ _ ?_
  replace hHeld := And.intro hHeld (conv_rd o10.rd)
  refine wpAnyH_take (i := 52) (oi := _) (v := ?_) (by simp only [List.getElem?_toArray, List.getElem?_cons_succ, List.getElem?_cons_zero]; rfl) (by kernel_rfl) (by kernel_rfl) (by kernel_rfl) (by intro _ _ _ h; exact h) (Or.inl ⟨by rfl, fun W hSw => ?_⟩) hHeld ?_
  rotate_left 1
  · (have hT := hSw.2; clear hSw; first | (go_simp; done) | (go_simp; with_reducible rfl))
  try go_frame
  refine wpAnyH_take (i := 53) (oi := _) (v := ?_) (by simp only [List.getElem?_toArray, List.getElem?_cons_succ, List.getElem?_cons_zero]; rfl) (by kernel_rfl) (by kernel_rfl) (by kernel_rfl) (by intro _ _ _ h; exact h) (Or.inl ⟨by rfl, fun W hSw => ?_⟩) hHeld ?_
  rotate_left 1
  · (clear hSw; first | (go_simp; done) | (go_simp; with_reducible rfl))
  try go_frame
  refine wpAnyH_take (i := 54) (oi := _) (v := ?_) (by simp only [List.getElem?_toArray, List.getElem?_cons_succ, List.getElem?_cons_zero]; rfl) (by kernel_rfl) (by kernel_rfl) (by kernel_rfl) (by intro _ _ _ h; exact h) (Or.inl ⟨by rfl, fun W hSw => ?_⟩) hHeld ?_
  rotate_left 1
  · (clear hSw; first | (go_simp; done) | (go_simp; with_reducible rfl))
  try go_frame
  refine wpAnyH_take (i := 55) (oi := _) (v := ?_) (by simp only [List.getElem?_toArray, List.getElem?_cons_succ, List.getElem?_cons_zero]; rfl) (by kernel_rfl) (by kernel_rfl) (by kernel_rfl) (by intro _ _ _ h; exact h) (Or.inl ⟨by rfl, fun W hSw => ?_⟩) hHeld ?_
  rotate_left 1
  · (clear hSw; first | (go_simp; done) | (go_simp; with_reducible rfl))
  try go_frame
  refine wpAnyH_done (by kernel_rfl) ?_ _
  go_wp2
  go_ret
  exact ⟨rfl, hB10⟩

end Go.Proofs.Ytpkkehgbnhjnaaa
