/- Texts that the proof is made of, joined. No condition. -/
import Derived.Test.YtghihbjcjobdoaaC812
import Derived.Test.YtghihbjcjobdoaaC8SRef
import Derived.Test.YtghihbjcjobdoaaC8H
set_option linter.unusedVariables false
set_option linter.unusedSimpArgs false
set_option maxRecDepth 100000
set_option maxHeartbeats 16000000
namespace Go.Proofs.Ytghihbjcjobdoaa.R
open Go.RowKit Go.Proofs.Ytghihbjcjobdoaa.D Go.Proofs.Ytghihbjcjobdoaa.O Go.Proofs.Ytghihbjcjobdoaa.A
theorem class_t (n s : ByteArray) (k : Int) (p : Option Addr) (l c : Nat) (w : World) :
    Calls Try.prog 16 #[.string n, .string s, .int .i64 k, .slice p l c] w fun e w' => e = .returned (.agg #[.string n, .string s, .slice p l c, .int .i64 k, .slice none 0 0, .slice none 0 0]) ∧ Below w.heap.size w w' := by
  go_enter Try.func16, Try.ntmps16
  go_wp2
  refine bodyPost_ret (v := .agg #[.string n, .string s, .slice p l c, .int .i64 k, .slice none 0 0, .slice none 0 0]) (by simp [*, results, Try.results16, go_sem]) rfl ⟨rfl, ?_⟩
  exact below_alR _ _
def clsI : List Cls := [⟨⟨#[65]⟩, ⟨#[79, 98, 106, 101, 99, 116]⟩, [⟨#[80]⟩, ⟨#[81]⟩], 1, [], []⟩, ⟨⟨#[66]⟩, ⟨#[65]⟩, [⟨#[82]⟩, ⟨#[80]⟩], 1, [], []⟩, ⟨⟨#[80]⟩, ⟨#[79, 98, 106, 101, 99, 116]⟩, [⟨#[83]⟩], 4, [], []⟩, ⟨⟨#[81]⟩, ⟨#[79, 98, 106, 101, 99, 116]⟩, [⟨#[83]⟩, ⟨#[84]⟩], 4, [], []⟩, ⟨⟨#[82]⟩, ⟨#[79, 98, 106, 101, 99, 116]⟩, [⟨#[81]⟩], 4, [], []⟩, ⟨⟨#[83]⟩, ⟨#[79, 98, 106, 101, 99, 116]⟩, [], 4, [], []⟩, ⟨⟨#[84]⟩, ⟨#[79, 98, 106, 101, 99, 116]⟩, [], 4, [], []⟩]
def clsX (i j : Nat) : List Cls := match clsI[i]?, clsI[j]? with | some a, some b => (clsI.set i b).set j a | _, _ => clsI
def skX (i j : Nat) : List Sk := (keepL (clsX i j)).map skOf
theorem ifs_all : ∀ i : Fin 7, ∀ j : Fin 7, ifacesT (skX i j) ⟨#[65]⟩ = [⟨#[80]⟩, ⟨#[83]⟩, ⟨#[81]⟩, ⟨#[84]⟩] ∧ ifacesT (skX i j) ⟨#[66]⟩ = [⟨#[82]⟩, ⟨#[81]⟩, ⟨#[83]⟩, ⟨#[84]⟩, ⟨#[80]⟩] ∧ ifacesT (skX i j) ⟨#[82]⟩ = [⟨#[81]⟩, ⟨#[83]⟩, ⟨#[84]⟩] ∧ ifacesT (skX i j) ⟨#[83]⟩ = [] ∧ subT (skX i j) ⟨#[66]⟩ ⟨#[84]⟩ = true ∧ subT (skX i j) ⟨#[84]⟩ ⟨#[83]⟩ = false := by decide +kernel
theorem clsX_mem {i j : Nat} : ∀ c ∈ clsX i j, c ∈ clsI := by
  intro c hc
  unfold clsX at hc
  split at hc
  · rename_i a b ha hb
    rcases List.mem_or_eq_of_mem_set hc with h | rfl
    · rcases List.mem_or_eq_of_mem_set h with h | rfl
      · exact h
      · exact List.mem_of_getElem? hb
    · exact List.mem_of_getElem? ha
  · exact hc
theorem clsX_len {i j : Nat} : (clsX i j).length = 7 := by
  unfold clsX
  split
  · rw [List.length_set, List.length_set]; rfl
  · rfl
theorem clsX_sz (i j : Nat) : SzT ((clsX i j).map skOf) := by
  have h : SzT (clsI.map skOf) := szT_small (by decide +kernel)
  refine ⟨by rw [List.length_map, clsX_len]; decide, fun c hc => ?_⟩
  obtain ⟨d, hd, rfl⟩ := List.mem_map.1 hc
  exact h.2 _ (List.mem_map.2 ⟨d, clsX_mem d hd, rfl⟩)
theorem clsX_few (i j : Nat) : ∀ c ∈ clsX i j, FewC c := by
  have h : ∀ c ∈ clsI, c.ifaces.length ≤ 100 ∧ c.fields.length ≤ 100 ∧ c.methods = [] := by decide +kernel
  intro c hc
  obtain ⟨h1, h2, h3⟩ := h c (clsX_mem c hc)
  exact few_cls h1 h2 (by rw [h3]; exact Nat.zero_le _) (by rw [h3]; exact nil_all)
theorem all2_set {α β : Type} {Q : α → β → Prop} : ∀ {xs : List α} {ys : List β}, All2 Q xs ys → ∀ (i : Nat) {a : α} {c : β}, Q a c → All2 Q (xs.set i a) (ys.set i c)
  | [], [], _, i, _, _, _ => by cases i <;> trivial
  | x :: xs, y :: ys, h, 0, _, _, q => ⟨q, h.2⟩
  | x :: xs, y :: ys, h, i + 1, _, _, q => ⟨h.1, all2_set h.2 i q⟩
  | [], _ :: _, h, _, _, _, _ => h.elim
  | _ :: _, [], h, _, _, _, _ => h.elim
theorem box_keep {w w' : World} {G : Nat} {v : Value} (hk : Kpt [G] w w') (h : w.cell? ⟨G + 1, 0, none⟩ = some v) : w'.cell? ⟨G + 1, 0, none⟩ = some v := by
  rw [World.cell?_of_block (w := w) (a := ⟨G + 1, 0, none⟩) (hk.2 _ (World.block_lt_of_cell? _ _ h) (by simp))]
  exact h
theorem str_box {w : World} (ys : List ByteArray) (cs : Array Value) (h : cs.toList = ys.flatMap strC) (n : Nat) (hn : n = ys.length) : RdX 1 (sP strC) anyB (w.alloc (.cells cs 9)) (.slice (some ⟨w.heap.size, 0, none⟩) n n) ys :=
  rd_lit_next (c := strC) (Below.refl _ _) ys h (fun _ => rfl) anyB trivial n hn
theorem rdX_rdc {ok : Nat → Prop} {w : World} {p : Option Addr} {n c : Nat} {ys : List ByteArray} (h : RdX 1 (sP strC) ok w (.slice p n c) ys) (hc : c ≤ maxLen) : S.RdC S.cS ok w (.slice p n c) ys := by
  have h0 := h
  obtain ⟨p', c', e, h1, h2, h3⟩ := h
  simp only [Value.slice.injEq] at e
  obtain ⟨rfl, rfl, rfl⟩ := e
  refine ⟨_, _, rfl, h1, h2, hc, ?_⟩
  rcases h3 with h3 | ⟨b, off, rfl, hb, hl, _⟩
  · exact .inl h3
  · refine .inr ⟨b, off, rfl, hb, hl, fun i y hy => ?_⟩
    obtain ⟨b', off', e', _, _, _, _, hc'⟩ := rdX_at h0 hy
    cases e'
    exact hc'
set_option maxHeartbeats 3000000 in
set_option maxRecDepth 100000 in
theorem ifaces_l (k : Nat) (w : World) (hk : k < 256) :
    Calls Try.prog 5 #[.int .u8 (k : Int)] w fun e w' => e = .returned (.bool true) ∧ Below w.heap.size w w' := by
  go_enter Try.func5, Try.ntmps5
  go_wp2_with fail
  refine (known_8 w).mono ?_
  rintro e w1 ⟨rfl, hb1⟩
  have HB1 := Lib.hid hb1
  clear hb1
  have hd0 := str_box (w := w1) [⟨#[80]⟩, ⟨#[81]⟩] #[.string ⟨#[80]⟩, .string ⟨#[81]⟩] rfl 2 rfl
  obtain ⟨v0, hv0⟩ : ∃ W, W = w1.alloc (.cells #[.string ⟨#[80]⟩, .string ⟨#[81]⟩] 9) := ⟨_, rfl⟩
  rw [← hv0] at hd0
  have bv0 : Below w1.heap.size w1 v0 := by rw [hv0]; exact below_alR _ _
  have HD0 := Lib.hid hd0
  go_wp2_with fail
  rw [← hv0]
  clear hd0 hv0
  obtain ⟨g0, hg0⟩ : ∃ x, w1.heap.size = x := ⟨_, rfl⟩
  rw [hg0] at HD0 ⊢
  clear hg0
  refine (class_t _ _ _ _ _ _ v0).mono ?_
  rintro e w2 ⟨rfl, hc0⟩
  have HC1 : Hid (Below w1.heap.size w1 w2) := Lib.hid (bv0.trans (hc0.mono bv0.size))
  have HD0n := Lib.hid (HD0.out.any (sP.grow _) hc0)
  clear HD0
  clear hc0 bv0
  have hd1 := str_box (w := w2) [⟨#[82]⟩, ⟨#[80]⟩] #[.string ⟨#[82]⟩, .string ⟨#[80]⟩] rfl 2 rfl
  obtain ⟨v1, hv1⟩ : ∃ W, W = w2.alloc (.cells #[.string ⟨#[82]⟩, .string ⟨#[80]⟩] 9) := ⟨_, rfl⟩
  rw [← hv1] at hd1
  have bv1 : Below w2.heap.size w2 v1 := by rw [hv1]; exact below_alR _ _
  have HD1 := Lib.hid hd1
  go_wp2_with fail
  rw [← hv1]
  clear hd1 hv1
  obtain ⟨g1, hg1⟩ : ∃ x, w2.heap.size = x := ⟨_, rfl⟩
  rw [hg1] at HD1 ⊢
  clear hg1
  refine (class_t _ _ _ _ _ _ v1).mono ?_
  rintro e w3 ⟨rfl, hc1⟩
  have HC2 := Lib.hid (HC1.out.trans ((bv1.trans (hc1.mono bv1.size)).mono HC1.out.size))
  have HD1n := Lib.hid (HD1.out.any (sP.grow _) hc1)
  clear HD1
  have HD0m := Lib.hid (HD0n.out.any (sP.grow _) (bv1.trans (hc1.mono bv1.size)))
  clear HD0n
  have HD0n := HD0m
  clear HD0m
  clear hc1 bv1 HC1
  have hd2 := str_box (w := w3) [⟨#[83]⟩] #[.string ⟨#[83]⟩] rfl 1 rfl
  obtain ⟨v2, hv2⟩ : ∃ W, W = w3.alloc (.cells #[.string ⟨#[83]⟩] 9) := ⟨_, rfl⟩
  rw [← hv2] at hd2
  have bv2 : Below w3.heap.size w3 v2 := by rw [hv2]; exact below_alR _ _
  have HD2 := Lib.hid hd2
  go_wp2_with fail
  rw [← hv2]
  clear hd2 hv2
  obtain ⟨g2, hg2⟩ : ∃ x, w3.heap.size = x := ⟨_, rfl⟩
  rw [hg2] at HD2 ⊢
  clear hg2
  refine (class_t _ _ _ _ _ _ v2).mono ?_
  rintro e w4 ⟨rfl, hc2⟩
  have HC3 := Lib.hid (HC2.out.trans ((bv2.trans (hc2.mono bv2.size)).mono HC2.out.size))
  have HD2n := Lib.hid (HD2.out.any (sP.grow _) hc2)
  clear HD2
  have HD0m := Lib.hid (HD0n.out.any (sP.grow _) (bv2.trans (hc2.mono bv2.size)))
  clear HD0n
  have HD0n := HD0m
  clear HD0m
  have HD1m := Lib.hid (HD1n.out.any (sP.grow _) (bv2.trans (hc2.mono bv2.size)))
  clear HD1n
  have HD1n := HD1m
  clear HD1m
  clear hc2 bv2 HC2
  have hd3 := str_box (w := w4) [⟨#[83]⟩, ⟨#[84]⟩] #[.string ⟨#[83]⟩, .string ⟨#[84]⟩] rfl 2 rfl
  obtain ⟨v3, hv3⟩ : ∃ W, W = w4.alloc (.cells #[.string ⟨#[83]⟩, .string ⟨#[84]⟩] 9) := ⟨_, rfl⟩
  rw [← hv3] at hd3
  have bv3 : Below w4.heap.size w4 v3 := by rw [hv3]; exact below_alR _ _
  have HD3 := Lib.hid hd3
  go_wp2_with fail
  rw [← hv3]
  clear hd3 hv3
  obtain ⟨g3, hg3⟩ : ∃ x, w4.heap.size = x := ⟨_, rfl⟩
  rw [hg3] at HD3 ⊢
  clear hg3
  refine (class_t _ _ _ _ _ _ v3).mono ?_
  rintro e w5 ⟨rfl, hc3⟩
  have HC4 := Lib.hid (HC3.out.trans ((bv3.trans (hc3.mono bv3.size)).mono HC3.out.size))
  have HD3n := Lib.hid (HD3.out.any (sP.grow _) hc3)
  clear HD3
  have HD0m := Lib.hid (HD0n.out.any (sP.grow _) (bv3.trans (hc3.mono bv3.size)))
  clear HD0n
  have HD0n := HD0m
  clear HD0m
  have HD1m := Lib.hid (HD1n.out.any (sP.grow _) (bv3.trans (hc3.mono bv3.size)))
  clear HD1n
  have HD1n := HD1m
  clear HD1m
  have HD2m := Lib.hid (HD2n.out.any (sP.grow _) (bv3.trans (hc3.mono bv3.size)))
  clear HD2n
  have HD2n := HD2m
  clear HD2m
  clear hc3 bv3 HC3
  have hd4 := str_box (w := w5) [⟨#[81]⟩] #[.string ⟨#[81]⟩] rfl 1 rfl
  obtain ⟨v4, hv4⟩ : ∃ W, W = w5.alloc (.cells #[.string ⟨#[81]⟩] 9) := ⟨_, rfl⟩
  rw [← hv4] at hd4
  have bv4 : Below w5.heap.size w5 v4 := by rw [hv4]; exact below_alR _ _
  have HD4 := Lib.hid hd4
  go_wp2_with fail
  rw [← hv4]
  clear hd4 hv4
  obtain ⟨g4, hg4⟩ : ∃ x, w5.heap.size = x := ⟨_, rfl⟩
  rw [hg4] at HD4 ⊢
  clear hg4
  refine (class_t _ _ _ _ _ _ v4).mono ?_
  rintro e w6 ⟨rfl, hc4⟩
  have HC5 := Lib.hid (HC4.out.trans ((bv4.trans (hc4.mono bv4.size)).mono HC4.out.size))
  have HD4n := Lib.hid (HD4.out.any (sP.grow _) hc4)
  clear HD4
  have HD0m := Lib.hid (HD0n.out.any (sP.grow _) (bv4.trans (hc4.mono bv4.size)))
  clear HD0n
  have HD0n := HD0m
  clear HD0m
  have HD1m := Lib.hid (HD1n.out.any (sP.grow _) (bv4.trans (hc4.mono bv4.size)))
  clear HD1n
  have HD1n := HD1m
  clear HD1m
  have HD2m := Lib.hid (HD2n.out.any (sP.grow _) (bv4.trans (hc4.mono bv4.size)))
  clear HD2n
  have HD2n := HD2m
  clear HD2m
  have HD3m := Lib.hid (HD3n.out.any (sP.grow _) (bv4.trans (hc4.mono bv4.size)))
  clear HD3n
  have HD3n := HD3m
  clear HD3m
  clear hc4 bv4 HC4
  go_wp2_with fail
  refine (class_t _ _ _ _ _ _ w6).mono ?_
  rintro e w7 ⟨rfl, hc5⟩
  have HC6 := Lib.hid (HC5.out.trans (hc5.mono HC5.out.size))
  have HD0m := Lib.hid (HD0n.out.any (sP.grow _) hc5)
  clear HD0n
  have HD0n := HD0m
  clear HD0m
  have HD1m := Lib.hid (HD1n.out.any (sP.grow _) hc5)
  clear HD1n
  have HD1n := HD1m
  clear HD1m
  have HD2m := Lib.hid (HD2n.out.any (sP.grow _) hc5)
  clear HD2n
  have HD2n := HD2m
  clear HD2m
  have HD3m := Lib.hid (HD3n.out.any (sP.grow _) hc5)
  clear HD3n
  have HD3n := HD3m
  clear HD3m
  have HD4m := Lib.hid (HD4n.out.any (sP.grow _) hc5)
  clear HD4n
  have HD4n := HD4m
  clear HD4m
  clear hc5 HC5
  go_wp2_with fail
  refine (class_t _ _ _ _ _ _ w7).mono ?_
  rintro e w8 ⟨rfl, hc6⟩
  have HC7 := Lib.hid (HC6.out.trans (hc6.mono HC6.out.size))
  have HD0m := Lib.hid (HD0n.out.any (sP.grow _) hc6)
  clear HD0n
  have HD0n := HD0m
  clear HD0m
  have HD1m := Lib.hid (HD1n.out.any (sP.grow _) hc6)
  clear HD1n
  have HD1n := HD1m
  clear HD1m
  have HD2m := Lib.hid (HD2n.out.any (sP.grow _) hc6)
  clear HD2n
  have HD2n := HD2m
  clear HD2m
  have HD3m := Lib.hid (HD3n.out.any (sP.grow _) hc6)
  clear HD3n
  have HD3n := HD3m
  clear HD3m
  have HD4m := Lib.hid (HD4n.out.any (sP.grow _) hc6)
  clear HD4n
  have HD4n := HD4m
  clear HD4m
  clear hc6 HC6
  obtain ⟨rs, hrs, hall⟩ := raws_of (P := cP) shape_cls (ok := fun b => b < w8.heap.size) (W := w8) (ls := [[.string ⟨#[65]⟩, .string ⟨#[79, 98, 106, 101, 99, 116]⟩, .slice (some ⟨g0, 0, none⟩) 2 2, .int .i64 1, .slice none 0 0, .slice none 0 0], [.string ⟨#[66]⟩, .string ⟨#[65]⟩, .slice (some ⟨g1, 0, none⟩) 2 2, .int .i64 1, .slice none 0 0, .slice none 0 0], [.string ⟨#[80]⟩, .string ⟨#[79, 98, 106, 101, 99, 116]⟩, .slice (some ⟨g2, 0, none⟩) 1 1, .int .i64 4, .slice none 0 0, .slice none 0 0], [.string ⟨#[81]⟩, .string ⟨#[79, 98, 106, 101, 99, 116]⟩, .slice (some ⟨g3, 0, none⟩) 2 2, .int .i64 4, .slice none 0 0, .slice none 0 0], [.string ⟨#[82]⟩, .string ⟨#[79, 98, 106, 101, 99, 116]⟩, .slice (some ⟨g4, 0, none⟩) 1 1, .int .i64 4, .slice none 0 0, .slice none 0 0], [.string ⟨#[83]⟩, .string ⟨#[79, 98, 106, 101, 99, 116]⟩, .slice none 0 0, .int .i64 4, .slice none 0 0, .slice none 0 0], [.string ⟨#[84]⟩, .string ⟨#[79, 98, 106, 101, 99, 116]⟩, .slice none 0 0, .int .i64 4, .slice none 0 0, .slice none 0 0]]) (cs := clsI) ⟨⟨_, _, _, rfl, HD0n.out.step (sP.grow _) (fun _ _ hl => hl) (fun _ _ _ => rfl) (Nat.le_refl _), RdX.nil _ _ _ _, RdX.nil _ _ _ _⟩, ⟨_, _, _, rfl, HD1n.out.step (sP.grow _) (fun _ _ hl => hl) (fun _ _ _ => rfl) (Nat.le_refl _), RdX.nil _ _ _ _, RdX.nil _ _ _ _⟩, ⟨_, _, _, rfl, HD2n.out.step (sP.grow _) (fun _ _ hl => hl) (fun _ _ _ => rfl) (Nat.le_refl _), RdX.nil _ _ _ _, RdX.nil _ _ _ _⟩, ⟨_, _, _, rfl, HD3n.out.step (sP.grow _) (fun _ _ hl => hl) (fun _ _ _ => rfl) (Nat.le_refl _), RdX.nil _ _ _ _, RdX.nil _ _ _ _⟩, ⟨_, _, _, rfl, HD4n.out.step (sP.grow _) (fun _ _ hl => hl) (fun _ _ _ => rfl) (Nat.le_refl _), RdX.nil _ _ _ _, RdX.nil _ _ _ _⟩, ⟨_, _, _, rfl, RdX.nil _ _ _ _, RdX.nil _ _ _ _, RdX.nil _ _ _ _⟩, ⟨_, _, _, rfl, RdX.nil _ _ _ _, RdX.nil _ _ _ _, RdX.nil _ _ _ _⟩, trivial⟩
  have ho9 := OwnX.lits (T := 37) rawC_len w8 rs #[.string ⟨#[65]⟩, .string ⟨#[79, 98, 106, 101, 99, 116]⟩, .slice (some ⟨g0, 0, none⟩) 2 2, .int .i64 1, .slice none 0 0, .slice none 0 0, .string ⟨#[66]⟩, .string ⟨#[65]⟩, .slice (some ⟨g1, 0, none⟩) 2 2, .int .i64 1, .slice none 0 0, .slice none 0 0, .string ⟨#[80]⟩, .string ⟨#[79, 98, 106, 101, 99, 116]⟩, .slice (some ⟨g2, 0, none⟩) 1 1, .int .i64 4, .slice none 0 0, .slice none 0 0, .string ⟨#[81]⟩, .string ⟨#[79, 98, 106, 101, 99, 116]⟩, .slice (some ⟨g3, 0, none⟩) 2 2, .int .i64 4, .slice none 0 0, .slice none 0 0, .string ⟨#[82]⟩, .string ⟨#[79, 98, 106, 101, 99, 116]⟩, .slice (some ⟨g4, 0, none⟩) 1 1, .int .i64 4, .slice none 0 0, .slice none 0 0, .string ⟨#[83]⟩, .string ⟨#[79, 98, 106, 101, 99, 116]⟩, .slice none 0 0, .int .i64 4, .slice none 0 0, .slice none 0 0, .string ⟨#[84]⟩, .string ⟨#[79, 98, 106, 101, 99, 116]⟩, .slice none 0 0, .int .i64 4, .slice none 0 0, .slice none 0 0] (by rw [List.flatMap_def, hrs]; rfl) 7 (by have := hall.len; rw [this]; rfl) (by decide)
  obtain ⟨w9, hw9⟩ : ∃ W, W = w8.alloc (.cells #[.string ⟨#[65]⟩, .string ⟨#[79, 98, 106, 101, 99, 116]⟩, .slice (some ⟨g0, 0, none⟩) 2 2, .int .i64 1, .slice none 0 0, .slice none 0 0, .string ⟨#[66]⟩, .string ⟨#[65]⟩, .slice (some ⟨g1, 0, none⟩) 2 2, .int .i64 1, .slice none 0 0, .slice none 0 0, .string ⟨#[80]⟩, .string ⟨#[79, 98, 106, 101, 99, 116]⟩, .slice (some ⟨g2, 0, none⟩) 1 1, .int .i64 4, .slice none 0 0, .slice none 0 0, .string ⟨#[81]⟩, .string ⟨#[79, 98, 106, 101, 99, 116]⟩, .slice (some ⟨g3, 0, none⟩) 2 2, .int .i64 4, .slice none 0 0, .slice none 0 0, .string ⟨#[82]⟩, .string ⟨#[79, 98, 106, 101, 99, 116]⟩, .slice (some ⟨g4, 0, none⟩) 1 1, .int .i64 4, .slice none 0 0, .slice none 0 0, .string ⟨#[83]⟩, .string ⟨#[79, 98, 106, 101, 99, 116]⟩, .slice none 0 0, .int .i64 4, .slice none 0 0, .slice none 0 0, .string ⟨#[84]⟩, .string ⟨#[79, 98, 106, 101, 99, 116]⟩, .slice none 0 0, .int .i64 4, .slice none 0 0, .slice none 0 0] 37) := ⟨_, rfl⟩
  obtain ⟨w10, hw10⟩ : ∃ W, W = w9.alloc (.cells #[.slice (some ⟨w8.heap.size, 0, none⟩) 7 7] 28) := ⟨_, rfl⟩
  go_upto_region 4 with fail
  rw [← hw9, ← hw10]
  rw [← hw9] at ho9
  have hz9 : w9.heap.size = w8.heap.size + 1 := by rw [hw9]; simp
  have b9 : Below w8.heap.size w8 w9 := by rw [hw9]; exact below_alR _ _
  have b10 : Below w9.heap.size w9 w10 := by rw [hw10]; exact below_alR _ _
  have HBX : Hid (w10.heap[w8.heap.size + 1]? = some (.cells #[.slice (some ⟨w8.heap.size, 0, none⟩) 7 7] 28 (0, 0))) := Lib.hid (by rw [hw10, ← hz9]; exact heap_alloc_new _ _)
  have HO := Lib.hid (ho9.kptS (.of_below b10 : Kpt [] w9 w10) (fun _ _ => by simp))
  have b80 := b9.trans (b10.mono b9.size)
  have HA := Lib.hid (hall.imp (fun r c h => cP.grow _ _ _ _ _ _ h (fun _ h _ => h) (.of_below b80) b80.size))
  have HC10 := Lib.hid (HC7.out.trans (b80.mono HC7.out.size))
  have HLN : Hid (rs.length = 7) := Lib.hid (by rw [hall.len]; rfl)
  have HC7s : Hid (w1.heap.size ≤ w8.heap.size) := Lib.hid HC7.out.size
  clear hw9 hw10 ho9 hz9 b9 b10 b80 hall hrs HC7 HD0n HD1n HD2n HD3n HD4n
  have HG0 := Lib.hid HC7s.out
  obtain ⟨G, hG⟩ : ∃ x, w8.heap.size = x := ⟨_, rfl⟩
  rw [hG] at HBX HO HA HG0 ⊢
  clear hG
  have v0 : IntKind.i64.wrap (k : Int) = (k : Int) := IntWalk.i64_in _ (by omega)
  go_upto_region 5 with fail
  obtain ⟨i, hi, hi7⟩ : ∃ i : Nat, (k : Int) % 7 = (i : Int) ∧ i < 7 := ⟨k % 7, by omega, Nat.mod_lt _ (by decide)⟩
  obtain ⟨j, hj, hj7⟩ : ∃ j : Nat, (k : Int) / 7 % 7 = (j : Int) ∧ j < 7 := ⟨k / 7 % 7, by omega, Nat.mod_lt _ (by decide)⟩
  rw [hi, hj]
  clear hi hj v0
  obtain ⟨ra, hra⟩ : ∃ r, rs[i]? = some r := ⟨_, List.getElem?_eq_getElem (by rw [HLN.out]; exact hi7)⟩
  obtain ⟨rb, hrb⟩ : ∃ r, rs[j]? = some r := ⟨_, List.getElem?_eq_getElem (by rw [HLN.out]; exact hj7)⟩
  have HG1 : Hid (w1.heap.size ≤ G) := Lib.hid HG0.out
  have HRA := Lib.hid hra
  have HRB := Lib.hid hrb
  clear hra hrb
  go_cut [] from 30 to 47 (fun wx => OwnX 6 37 (sP rawC) wx G (.slice (some ⟨G, 0, none⟩) 7 7) ((rs.set i rb).set j ra) ∧ Kpt [G] w10 wx)
  case first =>
    have i0 : (0 : Int) ≤ (i : Int) := by omega
    have i1 : (i : Int) < 7 := by omega
    have j0 : (0 : Int) ≤ (j : Int) := by omega
    have j1 : (j : Int) < 7 := by omega
    have HQ : Hid (w10.cell? ⟨G + 1, 0, none⟩ = some (.slice (some ⟨G, 0, none⟩) 7 7)) := Lib.hid (by obtain ⟨-, xc, -⟩ := boxN HBX.out; exact xc 0 _ rfl)
    by_cases hij : i = j
    · subst hij
      have hab : rb = ra := by have := HRB.out; rw [HRA.out] at this; cases this; rfl
      subst hab
      obtain ⟨ua, sa, qa1, ma1, da1, ka, qa2, ma2, da2, qa3, ma3, da3, ea⟩ := cls_at HA.out i rb HRA.out
      obtain ⟨g', cap', hv', -, -, hgl, hfz, hca, -⟩ := HO.out.put6 HRA.out ea
      simp only [Value.slice.injEq, Option.some.injEq, Addr.mk.injEq, and_true] at hv'
      obtain ⟨rfl, -, -⟩ := hv'
      rw [ea] at hca
      have u0 := hca 0 _ rfl
      have u1 := hca 1 _ rfl
      have u2 := hca 2 _ rfl
      have u3 := hca 3 _ rfl
      have u4 := hca 4 _ rfl
      have u5 := hca 5 _ rfl
      simp only [Nat.add_zero] at u0
      clear hca
      have z0 := hfz (i * 6)
      have z1 := hfz (i * 6 + 1)
      have z2 := hfz (i * 6 + 2)
      have z3 := hfz (i * 6 + 3)
      have z4 := hfz (i * 6 + 4)
      have z5 := hfz (i * 6 + 5)
      clear hfz
      have HEA := Lib.hid ea
      have HEB := Lib.hid ea
      clear ea
      refine wp_region_held_drew (S := fun W => W.cell? ⟨G + 1, 0, none⟩ = some (.slice (some ⟨G, 0, none⟩) 7 7)) (by kernel_rfl) HQ.out (fun hHeld => ?_)
      refine wpAnyH_take (i := 0) (oi := _) (v := ?_) (by simp only [List.getElem?_toArray, List.getElem?_cons_zero]; rfl) (by kernel_rfl) (by kernel_rfl) (by kernel_rfl) (by intro _ _ _ h; exact h) (Or.inl ⟨by rfl, fun W hSw => ?_⟩) hHeld ?_
      rotate_left 1
      · (clear hSw; first | (go_simp; done) | (go_simp; with_reducible rfl))
      try go_frame
      refine wpAnyH_take (i := 1) (oi := _) (v := ?_) (by simp only [List.getElem?_toArray, List.getElem?_cons_succ, List.getElem?_cons_zero]; rfl) (by kernel_rfl) (by kernel_rfl) (by kernel_rfl) (by intro _ _ _ h; exact h) (Or.inl ⟨by rfl, fun W hSw => ?_⟩) hHeld ?_
      rotate_left 1
      · (try dsimp only at hSw); first | (go_simp; done) | (go_simp; with_reducible rfl)
      try go_frame
      refine wpAnyH_take (i := 2) (oi := _) (v := ?_) (by simp only [List.getElem?_toArray, List.getElem?_cons_succ, List.getElem?_cons_zero]; rfl) (by kernel_rfl) (by kernel_rfl) (by kernel_rfl) (by intro _ _ _ h; exact h) (Or.inl ⟨by rfl, fun W hSw => ?_⟩) hHeld ?_
      rotate_left 1
      · (clear hSw; first | (go_simp; done) | (go_simp; with_reducible rfl))
      try go_frame
      refine wpAnyH_take (i := 3) (oi := _) (v := ?_) (by simp only [List.getElem?_toArray, List.getElem?_cons_succ, List.getElem?_cons_zero]; rfl) (by kernel_rfl) (by kernel_rfl) (by kernel_rfl) (by intro _ _ _ h; exact h) (Or.inl ⟨by rfl, fun W hSw => ?_⟩) hHeld ?_
      rotate_left 1
      · (clear hSw; first | (go_simp; done) | (go_simp; with_reducible rfl))
      try go_frame
      refine wpAnyH_take (i := 4) (oi := _) (v := ?_) (by simp only [List.getElem?_toArray, List.getElem?_cons_succ, List.getElem?_cons_zero]; rfl) (by kernel_rfl) (by kernel_rfl) (by kernel_rfl) (by intro _ _ _ h; exact h) (Or.inl ⟨by rfl, fun W hSw => ?_⟩) hHeld ?_
      rotate_left 1
      · (try dsimp only at hSw); first | (go_simp; done) | (go_simp; with_reducible rfl)
      try go_frame
      refine wpAnyH_take (i := 5) (oi := _) (v := ?_) (by simp only [List.getElem?_toArray, List.getElem?_cons_succ, List.getElem?_cons_zero]; rfl) (by kernel_rfl) (by kernel_rfl) (by kernel_rfl) (by intro _ _ _ h; exact h) (Or.inl ⟨by rfl, fun W hSw => ?_⟩) hHeld ?_
      rotate_left 1
      · (clear hSw; first | (go_simp; done) | (go_simp; with_reducible rfl))
      try go_frame
      refine wpAnyH_take (i := 6) (oi := _) (v := ?_) (by simp only [List.getElem?_toArray, List.getElem?_cons_succ, List.getElem?_cons_zero]; rfl) (by kernel_rfl) (by kernel_rfl) (by kernel_rfl) (by intro _ _ _ h; exact h) (Or.inl ⟨by rfl, fun W hSw => ?_⟩) hHeld ?_
      rotate_left 1
      · (clear hSw; first | (go_simp; done) | (go_simp; with_reducible rfl))
      try go_frame
      refine wpAnyH_take (i := 7) (oi := _) (v := ?_) (by simp only [List.getElem?_toArray, List.getElem?_cons_succ, List.getElem?_cons_zero]; rfl) (by kernel_rfl) (by kernel_rfl) (by kernel_rfl) (by intro _ _ _ h; exact h) (Or.inl ⟨by rfl, fun W hSw => ?_⟩) hHeld ?_
      rotate_left 1
      · (try dsimp only at hSw); first | (go_simp; done) | (go_simp; with_reducible rfl)
      try go_frame
      refine wpAnyH_take (i := 8) (oi := _) (v := ?_) (by simp only [List.getElem?_toArray, List.getElem?_cons_succ, List.getElem?_cons_zero]; rfl) (by kernel_rfl) (by kernel_rfl) (by kernel_rfl) (by intro _ _ _ h; exact h) (Or.inl ⟨by rfl, fun W hSw => ?_⟩) hHeld ?_
      rotate_left 1
      · (clear hSw; first | (go_simp; done) | (go_simp; with_reducible rfl))
      try go_frame
      refine wpAnyH_take (i := 9) (oi := _) (v := ?_) (by simp only [List.getElem?_toArray, List.getElem?_cons_succ, List.getElem?_cons_zero]; rfl) (by kernel_rfl) (by kernel_rfl) (by kernel_rfl) (by intro _ _ _ h; exact h) (Or.inl ⟨by rfl, fun W hSw => ?_⟩) hHeld ?_
      rotate_left 1
      · (clear hSw; first | (go_simp; done) | (go_simp; with_reducible rfl))
      try go_frame
      refine wpAnyH_take (i := 11) (oi := _) (v := ?_) (by simp only [List.getElem?_toArray, List.getElem?_cons_succ, List.getElem?_cons_zero]; rfl) (by kernel_rfl) (by kernel_rfl) (by kernel_rfl) (by intro _ _ _ h; exact h) (Or.inl ⟨by rfl, fun W hSw => ?_⟩) hHeld ?_
      rotate_left 1
      · (clear hSw; first | (go_simp; done) | (go_simp; with_reducible rfl))
      try go_frame
      refine wpAnyH_take (i := 12) (oi := _) (v := ?_) (by simp only [List.getElem?_toArray, List.getElem?_cons_succ, List.getElem?_cons_zero]; rfl) (by kernel_rfl) (by kernel_rfl) (by kernel_rfl) (by intro _ _ _ h; exact h) (Or.inl ⟨by rfl, fun W hSw => ?_⟩) hHeld ?_
      rotate_left 1
      · (try dsimp only at hSw); first | (go_simp; done) | (go_simp; with_reducible rfl)
      try go_frame
      refine wpAnyH_take (i := 13) (oi := _) (v := ?_) (by simp only [List.getElem?_toArray, List.getElem?_cons_succ, List.getElem?_cons_zero]; rfl) (by kernel_rfl) (by kernel_rfl) (by kernel_rfl) (by intro _ _ _ h; exact h) (Or.inl ⟨by rfl, fun W hSw => ?_⟩) hHeld ?_
      rotate_left 1
      · (clear hSw; first | (go_simp; done) | (go_simp; with_reducible rfl))
      try go_frame
      refine wpAnyH_take (i := 14) (oi := _) (v := ?_) (by simp only [List.getElem?_toArray, List.getElem?_cons_succ, List.getElem?_cons_zero]; rfl) (by kernel_rfl) (by kernel_rfl) (by kernel_rfl) (by intro _ _ _ h; exact h) (Or.inl ⟨by rfl, fun W hSw => ?_⟩) hHeld ?_
      rotate_left 1
      · (clear hSw; first | (go_simp; done) | (go_simp; with_reducible rfl))
      try go_frame
      refine wpAnyH_ready (rs := [10, 15]) (by kernel_rfl) (by simp) ?_
      refine AllReadyH.cons (o := _) (by simp only [List.getElem?_toArray, List.getElem?_cons_succ, List.getElem?_cons_zero]; rfl) (fun K hK => ?_) ?_
      · clear hHeld
        go_simp
        refine hK.out _ _ HQ.out (fun hHeld => ?_)
        clear hK K
        try go_frame
        refine wpAnyH_ready (rs := [15]) (by kernel_rfl) (by simp) ?_
        refine AllReadyH.cons (o := _) (by simp only [List.getElem?_toArray, List.getElem?_cons_succ, List.getElem?_cons_zero]; rfl) (fun K hK => ?_) AllReadyH.nil
        clear hHeld
        go_simp
        refine hK.out _ _ HQ.out (fun hHeld => ?_)
        clear hK K
        try go_frame
        refine wpAnyH_take (i := 16) (oi := _) (v := ?_) (by simp only [List.getElem?_toArray, List.getElem?_cons_succ, List.getElem?_cons_zero]; rfl) (by kernel_rfl) (by kernel_rfl) (by kernel_rfl) (by intro _ _ _ h; exact h) (Or.inl ⟨by rfl, fun W hSw => ?_⟩) hHeld ?_
        rotate_left 1
        · (clear hSw; first | (go_simp; done) | (go_simp; with_reducible rfl))
        try go_frame
        refine wpAnyH_ready (rs := [17]) (by kernel_rfl) (by simp) ?_
        refine AllReadyH.cons (o := _) (by simp only [List.getElem?_toArray, List.getElem?_cons_succ, List.getElem?_cons_zero]; rfl) (fun K hK => ?_) AllReadyH.nil
        clear hHeld
        go_simp
        obtain ⟨W1, hW1⟩ : ∃ W, W = ((((((w10.setCell ⟨G, i * 6, none⟩ (.string ua)).setCell ⟨G, i * 6 + 1, none⟩ (.string sa)).setCell ⟨G, i * 6 + 2, none⟩ (.slice qa1 ma1 da1)).setCell ⟨G, i * 6 + 3, none⟩ (.int .i64 ka)).setCell ⟨G, i * 6 + 4, none⟩ (.slice qa2 ma2 da2)).setCell ⟨G, i * 6 + 5, none⟩ (.slice qa3 ma3 da3)) := ⟨_, rfl⟩
        rw [← hW1]
        have hk1 : Kpt [G] w10 W1 := by rw [hW1]; exact (kset6 _ _ _ _ _ _ _ _ _ _ _ _ _ _)
        have HQ1 : Hid (W1.cell? ⟨G + 1, 0, none⟩ = some (.slice (some ⟨G, 0, none⟩) 7 7)) := Lib.hid (box_keep hk1 HQ.out)
        obtain ⟨g1, k1, hv1, -, -, -, -, -, hO1⟩ := HO.out.put6 HRA.out HEB.out
        simp only [Value.slice.injEq, Option.some.injEq, Addr.mk.injEq, and_true] at hv1
        obtain ⟨rfl, -, -⟩ := hv1
        simp only [Nat.add_zero] at hO1
        rw [← hW1] at hO1
        have hr2 : (rs.set i rb)[i]? = some rb := by rw [List.getElem?_set_self (by rw [HLN.out]; exact hi7)]
        obtain ⟨g2, k2, hv2, -, -, hgl1, hfz1, hc1, hO2⟩ := hO1.put6 hr2 HEA.out
        simp only [Value.slice.injEq, Option.some.injEq, Addr.mk.injEq, and_true] at hv2
        obtain ⟨rfl, -, -⟩ := hv2
        rw [HEB.out] at hc1
        simp only [Nat.add_zero] at hO2
        have e0 := hfz1 (i * 6)
        have c0 := hc1 0 _ rfl
        have e1 := hfz1 (i * 6 + 1)
        have c1 := hc1 1 _ rfl
        have e2 := hfz1 (i * 6 + 2)
        have c2 := hc1 2 _ rfl
        have e3 := hfz1 (i * 6 + 3)
        have c3 := hc1 3 _ rfl
        have e4 := hfz1 (i * 6 + 4)
        have c4 := hc1 4 _ rfl
        have e5 := hfz1 (i * 6 + 5)
        have c5 := hc1 5 _ rfl
        simp only [Nat.add_zero] at c0
        have HK1 := Lib.hid hk1
        have HO2 := Lib.hid hO2
        clear hW1 hk1 hO1 hO2 hr2 hfz1 hc1 HQ
        refine hK.out _ _ HQ1.out (fun hHeld => ?_)
        clear hK K
        try go_frame
        refine wpAnyH_take (i := 18) (oi := _) (v := ?_) (by simp only [List.getElem?_toArray, List.getElem?_cons_succ, List.getElem?_cons_zero]; rfl) (by kernel_rfl) (by kernel_rfl) (by kernel_rfl) (by intro _ _ _ h; exact h) (Or.inl ⟨by rfl, fun W hSw => ?_⟩) hHeld ?_
        rotate_left 1
        · (clear hSw; first | (go_simp; done) | (go_simp; with_reducible rfl))
        try go_frame
        refine wpAnyH_ready (rs := [19]) (by kernel_rfl) (by simp) ?_
        refine AllReadyH.cons (o := _) (by simp only [List.getElem?_toArray, List.getElem?_cons_succ, List.getElem?_cons_zero]; rfl) (fun K hK => ?_) AllReadyH.nil
        clear hHeld
        go_simp
        obtain ⟨W2, hW2⟩ : ∃ W, W = ((((((W1.setCell ⟨G, i * 6, none⟩ (.string ua)).setCell ⟨G, i * 6 + 1, none⟩ (.string sa)).setCell ⟨G, i * 6 + 2, none⟩ (.slice qa1 ma1 da1)).setCell ⟨G, i * 6 + 3, none⟩ (.int .i64 ka)).setCell ⟨G, i * 6 + 4, none⟩ (.slice qa2 ma2 da2)).setCell ⟨G, i * 6 + 5, none⟩ (.slice qa3 ma3 da3)) := ⟨_, rfl⟩
        rw [← hW2]
        have hk2 : Kpt [G] W1 W2 := by rw [hW2]; exact (kset6 _ _ _ _ _ _ _ _ _ _ _ _ _ _)
        have HQ2 : Hid (W2.cell? ⟨G + 1, 0, none⟩ = some (.slice (some ⟨G, 0, none⟩) 7 7)) := Lib.hid (box_keep hk2 HQ1.out)
        have HK2 := Lib.hid hk2
        have HW2 := Lib.hid hW2
        clear hW2 hk2
        refine hK.out _ _ HQ2.out (fun hHeld => ?_)
        clear hK K
        try go_frame
        refine wpAnyH_done (by kernel_rfl) ?_ _
        go_wp2_with fail
        go_meet
        have hO2 := HO2.out
        rw [← HW2.out] at hO2
        exact ⟨hO2.kptS (.of_below (below_drU _) : Kpt [] _ _) (fun _ _ => by simp), Kpt.drew (HK1.out.trans HK2.out (fun _ h => .inl h))⟩
      refine AllReadyH.cons (o := _) (by simp only [List.getElem?_toArray, List.getElem?_cons_succ, List.getElem?_cons_zero]; rfl) (fun K hK => ?_) AllReadyH.nil
      clear hHeld
      go_simp
      refine hK.out _ _ HQ.out (fun hHeld => ?_)
      clear hK K
      try go_frame
      refine wpAnyH_ready (rs := [10]) (by kernel_rfl) (by simp) ?_
      refine AllReadyH.cons (o := _) (by simp only [List.getElem?_toArray, List.getElem?_cons_succ, List.getElem?_cons_zero]; rfl) (fun K hK => ?_) AllReadyH.nil
      clear hHeld
      go_simp
      refine hK.out _ _ HQ.out (fun hHeld => ?_)
      clear hK K
      try go_frame
      refine wpAnyH_take (i := 16) (oi := _) (v := ?_) (by simp only [List.getElem?_toArray, List.getElem?_cons_succ, List.getElem?_cons_zero]; rfl) (by kernel_rfl) (by kernel_rfl) (by kernel_rfl) (by intro _ _ _ h; exact h) (Or.inl ⟨by rfl, fun W hSw => ?_⟩) hHeld ?_
      rotate_left 1
      · (clear hSw; first | (go_simp; done) | (go_simp; with_reducible rfl))
      try go_frame
      refine wpAnyH_ready (rs := [17]) (by kernel_rfl) (by simp) ?_
      refine AllReadyH.cons (o := _) (by simp only [List.getElem?_toArray, List.getElem?_cons_succ, List.getElem?_cons_zero]; rfl) (fun K hK => ?_) AllReadyH.nil
      clear hHeld
      go_simp
      obtain ⟨W1, hW1⟩ : ∃ W, W = ((((((w10.setCell ⟨G, i * 6, none⟩ (.string ua)).setCell ⟨G, i * 6 + 1, none⟩ (.string sa)).setCell ⟨G, i * 6 + 2, none⟩ (.slice qa1 ma1 da1)).setCell ⟨G, i * 6 + 3, none⟩ (.int .i64 ka)).setCell ⟨G, i * 6 + 4, none⟩ (.slice qa2 ma2 da2)).setCell ⟨G, i * 6 + 5, none⟩ (.slice qa3 ma3 da3)) := ⟨_, rfl⟩
      rw [← hW1]
      have hk1 : Kpt [G] w10 W1 := by rw [hW1]; exact (kset6 _ _ _ _ _ _ _ _ _ _ _ _ _ _)
      have HQ1 : Hid (W1.cell? ⟨G + 1, 0, none⟩ = some (.slice (some ⟨G, 0, none⟩) 7 7)) := Lib.hid (box_keep hk1 HQ.out)
      obtain ⟨g1, k1, hv1, -, -, -, -, -, hO1⟩ := HO.out.put6 HRA.out HEB.out
      simp only [Value.slice.injEq, Option.some.injEq, Addr.mk.injEq, and_true] at hv1
      obtain ⟨rfl, -, -⟩ := hv1
      simp only [Nat.add_zero] at hO1
      rw [← hW1] at hO1
      have hr2 : (rs.set i rb)[i]? = some rb := by rw [List.getElem?_set_self (by rw [HLN.out]; exact hi7)]
      obtain ⟨g2, k2, hv2, -, -, hgl1, hfz1, hc1, hO2⟩ := hO1.put6 hr2 HEA.out
      simp only [Value.slice.injEq, Option.some.injEq, Addr.mk.injEq, and_true] at hv2
      obtain ⟨rfl, -, -⟩ := hv2
      rw [HEB.out] at hc1
      simp only [Nat.add_zero] at hO2
      have e0 := hfz1 (i * 6)
      have c0 := hc1 0 _ rfl
      have e1 := hfz1 (i * 6 + 1)
      have c1 := hc1 1 _ rfl
      have e2 := hfz1 (i * 6 + 2)
      have c2 := hc1 2 _ rfl
      have e3 := hfz1 (i * 6 + 3)
      have c3 := hc1 3 _ rfl
      have e4 := hfz1 (i * 6 + 4)
      have c4 := hc1 4 _ rfl
      have e5 := hfz1 (i * 6 + 5)
      have c5 := hc1 5 _ rfl
      simp only [Nat.add_zero] at c0
      have HK1 := Lib.hid hk1
      have HO2 := Lib.hid hO2
      clear hW1 hk1 hO1 hO2 hr2 hfz1 hc1 HQ
      refine hK.out _ _ HQ1.out (fun hHeld => ?_)
      clear hK K
      try go_frame
      refine wpAnyH_take (i := 18) (oi := _) (v := ?_) (by simp only [List.getElem?_toArray, List.getElem?_cons_succ, List.getElem?_cons_zero]; rfl) (by kernel_rfl) (by kernel_rfl) (by kernel_rfl) (by intro _ _ _ h; exact h) (Or.inl ⟨by rfl, fun W hSw => ?_⟩) hHeld ?_
      rotate_left 1
      · (clear hSw; first | (go_simp; done) | (go_simp; with_reducible rfl))
      try go_frame
      refine wpAnyH_ready (rs := [19]) (by kernel_rfl) (by simp) ?_
      refine AllReadyH.cons (o := _) (by simp only [List.getElem?_toArray, List.getElem?_cons_succ, List.getElem?_cons_zero]; rfl) (fun K hK => ?_) AllReadyH.nil
      clear hHeld
      go_simp
      obtain ⟨W2, hW2⟩ : ∃ W, W = ((((((W1.setCell ⟨G, i * 6, none⟩ (.string ua)).setCell ⟨G, i * 6 + 1, none⟩ (.string sa)).setCell ⟨G, i * 6 + 2, none⟩ (.slice qa1 ma1 da1)).setCell ⟨G, i * 6 + 3, none⟩ (.int .i64 ka)).setCell ⟨G, i * 6 + 4, none⟩ (.slice qa2 ma2 da2)).setCell ⟨G, i * 6 + 5, none⟩ (.slice qa3 ma3 da3)) := ⟨_, rfl⟩
      rw [← hW2]
      have hk2 : Kpt [G] W1 W2 := by rw [hW2]; exact (kset6 _ _ _ _ _ _ _ _ _ _ _ _ _ _)
      have HQ2 : Hid (W2.cell? ⟨G + 1, 0, none⟩ = some (.slice (some ⟨G, 0, none⟩) 7 7)) := Lib.hid (box_keep hk2 HQ1.out)
      have HK2 := Lib.hid hk2
      have HW2 := Lib.hid hW2
      clear hW2 hk2
      refine hK.out _ _ HQ2.out (fun hHeld => ?_)
      clear hK K
      try go_frame
      refine wpAnyH_done (by kernel_rfl) ?_ _
      go_wp2_with fail
      go_meet
      have hO2 := HO2.out
      rw [← HW2.out] at hO2
      exact ⟨hO2.kptS (.of_below (below_drU _) : Kpt [] _ _) (fun _ _ => by simp), Kpt.drew (HK1.out.trans HK2.out (fun _ h => .inl h))⟩
    · have n0 : ¬ i * 6 = j * 6 := by omega
      obtain ⟨ua, sa, qa1, ma1, da1, ka, qa2, ma2, da2, qa3, ma3, da3, ea⟩ := cls_at HA.out i ra HRA.out
      obtain ⟨ub, sb, qb1, mb1, db1, kb, qb2, mb2, db2, qb3, mb3, db3, eb⟩ := cls_at HA.out j rb HRB.out
      obtain ⟨g', cap', hv', -, -, hgl, hfz, hca, -⟩ := HO.out.put6 HRA.out ea
      simp only [Value.slice.injEq, Option.some.injEq, Addr.mk.injEq, and_true] at hv'
      obtain ⟨rfl, -, -⟩ := hv'
      obtain ⟨g', cap', hv', -, -, -, -, hcb, -⟩ := HO.out.put6 HRB.out eb
      simp only [Value.slice.injEq, Option.some.injEq, Addr.mk.injEq, and_true] at hv'
      obtain ⟨rfl, -, -⟩ := hv'
      rw [ea] at hca
      rw [eb] at hcb
      have u0 := hca 0 _ rfl
      have u1 := hca 1 _ rfl
      have u2 := hca 2 _ rfl
      have u3 := hca 3 _ rfl
      have u4 := hca 4 _ rfl
      have u5 := hca 5 _ rfl
      simp only [Nat.add_zero] at u0
      clear hca
      have z0 := hfz (i * 6)
      have z1 := hfz (i * 6 + 1)
      have z2 := hfz (i * 6 + 2)
      have z3 := hfz (i * 6 + 3)
      have z4 := hfz (i * 6 + 4)
      have z5 := hfz (i * 6 + 5)
      have t0 := hcb 0 _ rfl
      have t1 := hcb 1 _ rfl
      have t2 := hcb 2 _ rfl
      have t3 := hcb 3 _ rfl
      have t4 := hcb 4 _ rfl
      have t5 := hcb 5 _ rfl
      simp only [Nat.add_zero] at t0
      clear hcb
      have y0 := hfz (j * 6)
      have y1 := hfz (j * 6 + 1)
      have y2 := hfz (j * 6 + 2)
      have y3 := hfz (j * 6 + 3)
      have y4 := hfz (j * 6 + 4)
      have y5 := hfz (j * 6 + 5)
      clear hfz
      have HEA := Lib.hid ea
      have HEB := Lib.hid eb
      clear ea eb
      refine wp_region_held_drew (S := fun W => W.cell? ⟨G + 1, 0, none⟩ = some (.slice (some ⟨G, 0, none⟩) 7 7)) (by kernel_rfl) HQ.out (fun hHeld => ?_)
      refine wpAnyH_take (i := 0) (oi := _) (v := ?_) (by simp only [List.getElem?_toArray, List.getElem?_cons_zero]; rfl) (by kernel_rfl) (by kernel_rfl) (by kernel_rfl) (by intro _ _ _ h; exact h) (Or.inl ⟨by rfl, fun W hSw => ?_⟩) hHeld ?_
      rotate_left 1
      · (clear hSw; first | (go_simp; done) | (go_simp; with_reducible rfl))
      try go_frame
      refine wpAnyH_take (i := 1) (oi := _) (v := ?_) (by simp only [List.getElem?_toArray, List.getElem?_cons_succ, List.getElem?_cons_zero]; rfl) (by kernel_rfl) (by kernel_rfl) (by kernel_rfl) (by intro _ _ _ h; exact h) (Or.inl ⟨by rfl, fun W hSw => ?_⟩) hHeld ?_
      rotate_left 1
      · (try dsimp only at hSw); first | (go_simp; done) | (go_simp; with_reducible rfl)
      try go_frame
      refine wpAnyH_take (i := 2) (oi := _) (v := ?_) (by simp only [List.getElem?_toArray, List.getElem?_cons_succ, List.getElem?_cons_zero]; rfl) (by kernel_rfl) (by kernel_rfl) (by kernel_rfl) (by intro _ _ _ h; exact h) (Or.inl ⟨by rfl, fun W hSw => ?_⟩) hHeld ?_
      rotate_left 1
      · (clear hSw; first | (go_simp; done) | (go_simp; with_reducible rfl))
      try go_frame
      refine wpAnyH_take (i := 3) (oi := _) (v := ?_) (by simp only [List.getElem?_toArray, List.getElem?_cons_succ, List.getElem?_cons_zero]; rfl) (by kernel_rfl) (by kernel_rfl) (by kernel_rfl) (by intro _ _ _ h; exact h) (Or.inl ⟨by rfl, fun W hSw => ?_⟩) hHeld ?_
      rotate_left 1
      · (clear hSw; first | (go_simp; done) | (go_simp; with_reducible rfl))
      try go_frame
      refine wpAnyH_take (i := 4) (oi := _) (v := ?_) (by simp only [List.getElem?_toArray, List.getElem?_cons_succ, List.getElem?_cons_zero]; rfl) (by kernel_rfl) (by kernel_rfl) (by kernel_rfl) (by intro _ _ _ h; exact h) (Or.inl ⟨by rfl, fun W hSw => ?_⟩) hHeld ?_
      rotate_left 1
      · (try dsimp only at hSw); first | (go_simp; done) | (go_simp; with_reducible rfl)
      try go_frame
      refine wpAnyH_take (i := 5) (oi := _) (v := ?_) (by simp only [List.getElem?_toArray, List.getElem?_cons_succ, List.getElem?_cons_zero]; rfl) (by kernel_rfl) (by kernel_rfl) (by kernel_rfl) (by intro _ _ _ h; exact h) (Or.inl ⟨by rfl, fun W hSw => ?_⟩) hHeld ?_
      rotate_left 1
      · (clear hSw; first | (go_simp; done) | (go_simp; with_reducible rfl))
      try go_frame
      refine wpAnyH_take (i := 6) (oi := _) (v := ?_) (by simp only [List.getElem?_toArray, List.getElem?_cons_succ, List.getElem?_cons_zero]; rfl) (by kernel_rfl) (by kernel_rfl) (by kernel_rfl) (by intro _ _ _ h; exact h) (Or.inl ⟨by rfl, fun W hSw => ?_⟩) hHeld ?_
      rotate_left 1
      · (clear hSw; first | (go_simp; done) | (go_simp; with_reducible rfl))
      try go_frame
      refine wpAnyH_take (i := 7) (oi := _) (v := ?_) (by simp only [List.getElem?_toArray, List.getElem?_cons_succ, List.getElem?_cons_zero]; rfl) (by kernel_rfl) (by kernel_rfl) (by kernel_rfl) (by intro _ _ _ h; exact h) (Or.inl ⟨by rfl, fun W hSw => ?_⟩) hHeld ?_
      rotate_left 1
      · (try dsimp only at hSw); first | (go_simp; done) | (go_simp; with_reducible rfl)
      try go_frame
      refine wpAnyH_take (i := 8) (oi := _) (v := ?_) (by simp only [List.getElem?_toArray, List.getElem?_cons_succ, List.getElem?_cons_zero]; rfl) (by kernel_rfl) (by kernel_rfl) (by kernel_rfl) (by intro _ _ _ h; exact h) (Or.inl ⟨by rfl, fun W hSw => ?_⟩) hHeld ?_
      rotate_left 1
      · (clear hSw; first | (go_simp; done) | (go_simp; with_reducible rfl))
      try go_frame
      refine wpAnyH_take (i := 9) (oi := _) (v := ?_) (by simp only [List.getElem?_toArray, List.getElem?_cons_succ, List.getElem?_cons_zero]; rfl) (by kernel_rfl) (by kernel_rfl) (by kernel_rfl) (by intro _ _ _ h; exact h) (Or.inl ⟨by rfl, fun W hSw => ?_⟩) hHeld ?_
      rotate_left 1
      · (clear hSw; first | (go_simp; done) | (go_simp; with_reducible rfl))
      try go_frame
      refine wpAnyH_take (i := 11) (oi := _) (v := ?_) (by simp only [List.getElem?_toArray, List.getElem?_cons_succ, List.getElem?_cons_zero]; rfl) (by kernel_rfl) (by kernel_rfl) (by kernel_rfl) (by intro _ _ _ h; exact h) (Or.inl ⟨by rfl, fun W hSw => ?_⟩) hHeld ?_
      rotate_left 1
      · (clear hSw; first | (go_simp; done) | (go_simp; with_reducible rfl))
      try go_frame
      refine wpAnyH_take (i := 12) (oi := _) (v := ?_) (by simp only [List.getElem?_toArray, List.getElem?_cons_succ, List.getElem?_cons_zero]; rfl) (by kernel_rfl) (by kernel_rfl) (by kernel_rfl) (by intro _ _ _ h; exact h) (Or.inl ⟨by rfl, fun W hSw => ?_⟩) hHeld ?_
      rotate_left 1
      · (try dsimp only at hSw); first | (go_simp; done) | (go_simp; with_reducible rfl)
      try go_frame
      refine wpAnyH_take (i := 13) (oi := _) (v := ?_) (by simp only [List.getElem?_toArray, List.getElem?_cons_succ, List.getElem?_cons_zero]; rfl) (by kernel_rfl) (by kernel_rfl) (by kernel_rfl) (by intro _ _ _ h; exact h) (Or.inl ⟨by rfl, fun W hSw => ?_⟩) hHeld ?_
      rotate_left 1
      · (clear hSw; first | (go_simp; done) | (go_simp; with_reducible rfl))
      try go_frame
      refine wpAnyH_take (i := 14) (oi := _) (v := ?_) (by simp only [List.getElem?_toArray, List.getElem?_cons_succ, List.getElem?_cons_zero]; rfl) (by kernel_rfl) (by kernel_rfl) (by kernel_rfl) (by intro _ _ _ h; exact h) (Or.inl ⟨by rfl, fun W hSw => ?_⟩) hHeld ?_
      rotate_left 1
      · (clear hSw; first | (go_simp; done) | (go_simp; with_reducible rfl))
      try go_frame
      refine wpAnyH_ready (rs := [10, 15]) (by kernel_rfl) (by simp) ?_
      refine AllReadyH.cons (o := _) (by simp only [List.getElem?_toArray, List.getElem?_cons_succ, List.getElem?_cons_zero]; rfl) (fun K hK => ?_) ?_
      · clear hHeld
        go_simp
        refine hK.out _ _ HQ.out (fun hHeld => ?_)
        clear hK K
        try go_frame
        refine wpAnyH_ready (rs := [15]) (by kernel_rfl) (by simp) ?_
        refine AllReadyH.cons (o := _) (by simp only [List.getElem?_toArray, List.getElem?_cons_succ, List.getElem?_cons_zero]; rfl) (fun K hK => ?_) AllReadyH.nil
        clear hHeld
        go_simp
        refine hK.out _ _ HQ.out (fun hHeld => ?_)
        clear hK K
        try go_frame
        refine wpAnyH_take (i := 16) (oi := _) (v := ?_) (by simp only [List.getElem?_toArray, List.getElem?_cons_succ, List.getElem?_cons_zero]; rfl) (by kernel_rfl) (by kernel_rfl) (by kernel_rfl) (by intro _ _ _ h; exact h) (Or.inl ⟨by rfl, fun W hSw => ?_⟩) hHeld ?_
        rotate_left 1
        · (clear hSw; first | (go_simp; done) | (go_simp; with_reducible rfl))
        try go_frame
        refine wpAnyH_ready (rs := [17]) (by kernel_rfl) (by simp) ?_
        refine AllReadyH.cons (o := _) (by simp only [List.getElem?_toArray, List.getElem?_cons_succ, List.getElem?_cons_zero]; rfl) (fun K hK => ?_) AllReadyH.nil
        clear hHeld
        go_simp
        obtain ⟨W1, hW1⟩ : ∃ W, W = ((((((w10.setCell ⟨G, i * 6, none⟩ (.string ub)).setCell ⟨G, i * 6 + 1, none⟩ (.string sb)).setCell ⟨G, i * 6 + 2, none⟩ (.slice qb1 mb1 db1)).setCell ⟨G, i * 6 + 3, none⟩ (.int .i64 kb)).setCell ⟨G, i * 6 + 4, none⟩ (.slice qb2 mb2 db2)).setCell ⟨G, i * 6 + 5, none⟩ (.slice qb3 mb3 db3)) := ⟨_, rfl⟩
        rw [← hW1]
        have hk1 : Kpt [G] w10 W1 := by rw [hW1]; exact (kset6 _ _ _ _ _ _ _ _ _ _ _ _ _ _)
        have HQ1 : Hid (W1.cell? ⟨G + 1, 0, none⟩ = some (.slice (some ⟨G, 0, none⟩) 7 7)) := Lib.hid (box_keep hk1 HQ.out)
        obtain ⟨g1, k1, hv1, -, -, -, -, -, hO1⟩ := HO.out.put6 HRA.out HEB.out
        simp only [Value.slice.injEq, Option.some.injEq, Addr.mk.injEq, and_true] at hv1
        obtain ⟨rfl, -, -⟩ := hv1
        simp only [Nat.add_zero] at hO1
        rw [← hW1] at hO1
        have hr2 : (rs.set i rb)[j]? = some rb := by rw [List.getElem?_set_ne hij]; exact HRB.out
        obtain ⟨g2, k2, hv2, -, -, hgl1, hfz1, hc1, hO2⟩ := hO1.put6 hr2 HEA.out
        simp only [Value.slice.injEq, Option.some.injEq, Addr.mk.injEq, and_true] at hv2
        obtain ⟨rfl, -, -⟩ := hv2
        rw [HEB.out] at hc1
        simp only [Nat.add_zero] at hO2
        have e0 := hfz1 (j * 6)
        have c0 := hc1 0 _ rfl
        have e1 := hfz1 (j * 6 + 1)
        have c1 := hc1 1 _ rfl
        have e2 := hfz1 (j * 6 + 2)
        have c2 := hc1 2 _ rfl
        have e3 := hfz1 (j * 6 + 3)
        have c3 := hc1 3 _ rfl
        have e4 := hfz1 (j * 6 + 4)
        have c4 := hc1 4 _ rfl
        have e5 := hfz1 (j * 6 + 5)
        have c5 := hc1 5 _ rfl
        simp only [Nat.add_zero] at c0
        have HK1 := Lib.hid hk1
        have HO2 := Lib.hid hO2
        clear hW1 hk1 hO1 hO2 hr2 hfz1 hc1 HQ
        refine hK.out _ _ HQ1.out (fun hHeld => ?_)
        clear hK K
        try go_frame
        refine wpAnyH_take (i := 18) (oi := _) (v := ?_) (by simp only [List.getElem?_toArray, List.getElem?_cons_succ, List.getElem?_cons_zero]; rfl) (by kernel_rfl) (by kernel_rfl) (by kernel_rfl) (by intro _ _ _ h; exact h) (Or.inl ⟨by rfl, fun W hSw => ?_⟩) hHeld ?_
        rotate_left 1
        · (clear hSw; first | (go_simp; done) | (go_simp; with_reducible rfl))
        try go_frame
        refine wpAnyH_ready (rs := [19]) (by kernel_rfl) (by simp) ?_
        refine AllReadyH.cons (o := _) (by simp only [List.getElem?_toArray, List.getElem?_cons_succ, List.getElem?_cons_zero]; rfl) (fun K hK => ?_) AllReadyH.nil
        clear hHeld
        go_simp
        obtain ⟨W2, hW2⟩ : ∃ W, W = ((((((W1.setCell ⟨G, j * 6, none⟩ (.string ua)).setCell ⟨G, j * 6 + 1, none⟩ (.string sa)).setCell ⟨G, j * 6 + 2, none⟩ (.slice qa1 ma1 da1)).setCell ⟨G, j * 6 + 3, none⟩ (.int .i64 ka)).setCell ⟨G, j * 6 + 4, none⟩ (.slice qa2 ma2 da2)).setCell ⟨G, j * 6 + 5, none⟩ (.slice qa3 ma3 da3)) := ⟨_, rfl⟩
        rw [← hW2]
        have hk2 : Kpt [G] W1 W2 := by rw [hW2]; exact (kset6 _ _ _ _ _ _ _ _ _ _ _ _ _ _)
        have HQ2 : Hid (W2.cell? ⟨G + 1, 0, none⟩ = some (.slice (some ⟨G, 0, none⟩) 7 7)) := Lib.hid (box_keep hk2 HQ1.out)
        have HK2 := Lib.hid hk2
        have HW2 := Lib.hid hW2
        clear hW2 hk2
        refine hK.out _ _ HQ2.out (fun hHeld => ?_)
        clear hK K
        try go_frame
        refine wpAnyH_done (by kernel_rfl) ?_ _
        go_wp2_with fail
        go_meet
        have hO2 := HO2.out
        rw [← HW2.out] at hO2
        exact ⟨hO2.kptS (.of_below (below_drU _) : Kpt [] _ _) (fun _ _ => by simp), Kpt.drew (HK1.out.trans HK2.out (fun _ h => .inl h))⟩
      refine AllReadyH.cons (o := _) (by simp only [List.getElem?_toArray, List.getElem?_cons_succ, List.getElem?_cons_zero]; rfl) (fun K hK => ?_) AllReadyH.nil
      clear hHeld
      go_simp
      refine hK.out _ _ HQ.out (fun hHeld => ?_)
      clear hK K
      try go_frame
      refine wpAnyH_ready (rs := [10]) (by kernel_rfl) (by simp) ?_
      refine AllReadyH.cons (o := _) (by simp only [List.getElem?_toArray, List.getElem?_cons_succ, List.getElem?_cons_zero]; rfl) (fun K hK => ?_) AllReadyH.nil
      clear hHeld
      go_simp
      refine hK.out _ _ HQ.out (fun hHeld => ?_)
      clear hK K
      try go_frame
      refine wpAnyH_take (i := 16) (oi := _) (v := ?_) (by simp only [List.getElem?_toArray, List.getElem?_cons_succ, List.getElem?_cons_zero]; rfl) (by kernel_rfl) (by kernel_rfl) (by kernel_rfl) (by intro _ _ _ h; exact h) (Or.inl ⟨by rfl, fun W hSw => ?_⟩) hHeld ?_
      rotate_left 1
      · (clear hSw; first | (go_simp; done) | (go_simp; with_reducible rfl))
      try go_frame
      refine wpAnyH_ready (rs := [17]) (by kernel_rfl) (by simp) ?_
      refine AllReadyH.cons (o := _) (by simp only [List.getElem?_toArray, List.getElem?_cons_succ, List.getElem?_cons_zero]; rfl) (fun K hK => ?_) AllReadyH.nil
      clear hHeld
      go_simp
      obtain ⟨W1, hW1⟩ : ∃ W, W = ((((((w10.setCell ⟨G, i * 6, none⟩ (.string ub)).setCell ⟨G, i * 6 + 1, none⟩ (.string sb)).setCell ⟨G, i * 6 + 2, none⟩ (.slice qb1 mb1 db1)).setCell ⟨G, i * 6 + 3, none⟩ (.int .i64 kb)).setCell ⟨G, i * 6 + 4, none⟩ (.slice qb2 mb2 db2)).setCell ⟨G, i * 6 + 5, none⟩ (.slice qb3 mb3 db3)) := ⟨_, rfl⟩
      rw [← hW1]
      have hk1 : Kpt [G] w10 W1 := by rw [hW1]; exact (kset6 _ _ _ _ _ _ _ _ _ _ _ _ _ _)
      have HQ1 : Hid (W1.cell? ⟨G + 1, 0, none⟩ = some (.slice (some ⟨G, 0, none⟩) 7 7)) := Lib.hid (box_keep hk1 HQ.out)
      obtain ⟨g1, k1, hv1, -, -, -, -, -, hO1⟩ := HO.out.put6 HRA.out HEB.out
      simp only [Value.slice.injEq, Option.some.injEq, Addr.mk.injEq, and_true] at hv1
      obtain ⟨rfl, -, -⟩ := hv1
      simp only [Nat.add_zero] at hO1
      rw [← hW1] at hO1
      have hr2 : (rs.set i rb)[j]? = some rb := by rw [List.getElem?_set_ne hij]; exact HRB.out
      obtain ⟨g2, k2, hv2, -, -, hgl1, hfz1, hc1, hO2⟩ := hO1.put6 hr2 HEA.out
      simp only [Value.slice.injEq, Option.some.injEq, Addr.mk.injEq, and_true] at hv2
      obtain ⟨rfl, -, -⟩ := hv2
      rw [HEB.out] at hc1
      simp only [Nat.add_zero] at hO2
      have e0 := hfz1 (j * 6)
      have c0 := hc1 0 _ rfl
      have e1 := hfz1 (j * 6 + 1)
      have c1 := hc1 1 _ rfl
      have e2 := hfz1 (j * 6 + 2)
      have c2 := hc1 2 _ rfl
      have e3 := hfz1 (j * 6 + 3)
      have c3 := hc1 3 _ rfl
      have e4 := hfz1 (j * 6 + 4)
      have c4 := hc1 4 _ rfl
      have e5 := hfz1 (j * 6 + 5)
      have c5 := hc1 5 _ rfl
      simp only [Nat.add_zero] at c0
      have HK1 := Lib.hid hk1
      have HO2 := Lib.hid hO2
      clear hW1 hk1 hO1 hO2 hr2 hfz1 hc1 HQ
      refine hK.out _ _ HQ1.out (fun hHeld => ?_)
      clear hK K
      try go_frame
      refine wpAnyH_take (i := 18) (oi := _) (v := ?_) (by simp only [List.getElem?_toArray, List.getElem?_cons_succ, List.getElem?_cons_zero]; rfl) (by kernel_rfl) (by kernel_rfl) (by kernel_rfl) (by intro _ _ _ h; exact h) (Or.inl ⟨by rfl, fun W hSw => ?_⟩) hHeld ?_
      rotate_left 1
      · (clear hSw; first | (go_simp; done) | (go_simp; with_reducible rfl))
      try go_frame
      refine wpAnyH_ready (rs := [19]) (by kernel_rfl) (by simp) ?_
      refine AllReadyH.cons (o := _) (by simp only [List.getElem?_toArray, List.getElem?_cons_succ, List.getElem?_cons_zero]; rfl) (fun K hK => ?_) AllReadyH.nil
      clear hHeld
      go_simp
      obtain ⟨W2, hW2⟩ : ∃ W, W = ((((((W1.setCell ⟨G, j * 6, none⟩ (.string ua)).setCell ⟨G, j * 6 + 1, none⟩ (.string sa)).setCell ⟨G, j * 6 + 2, none⟩ (.slice qa1 ma1 da1)).setCell ⟨G, j * 6 + 3, none⟩ (.int .i64 ka)).setCell ⟨G, j * 6 + 4, none⟩ (.slice qa2 ma2 da2)).setCell ⟨G, j * 6 + 5, none⟩ (.slice qa3 ma3 da3)) := ⟨_, rfl⟩
      rw [← hW2]
      have hk2 : Kpt [G] W1 W2 := by rw [hW2]; exact (kset6 _ _ _ _ _ _ _ _ _ _ _ _ _ _)
      have HQ2 : Hid (W2.cell? ⟨G + 1, 0, none⟩ = some (.slice (some ⟨G, 0, none⟩) 7 7)) := Lib.hid (box_keep hk2 HQ1.out)
      have HK2 := Lib.hid hk2
      have HW2 := Lib.hid hW2
      clear hW2 hk2
      refine hK.out _ _ HQ2.out (fun hHeld => ?_)
      clear hK K
      try go_frame
      refine wpAnyH_done (by kernel_rfl) ?_ _
      go_wp2_with fail
      go_meet
      have hO2 := HO2.out
      rw [← HW2.out] at hO2
      exact ⟨hO2.kptS (.of_below (below_drU _) : Kpt [] _ _) (fun _ _ => by simp), Kpt.drew (HK1.out.trans HK2.out (fun _ h => .inl h))⟩
  case rest =>
    obtain ⟨hO, hk10⟩ := hcut
    have h7 : clsI.length = 7 := rfl
    obtain ⟨ca, hca⟩ : ∃ c, clsI[i]? = some c := ⟨_, List.getElem?_eq_getElem (by rw [h7]; exact hi7)⟩
    obtain ⟨cb, hcb⟩ : ∃ c, clsI[j]? = some c := ⟨_, List.getElem?_eq_getElem (by rw [h7]; exact hj7)⟩
    have hA2 : All2 (fun r c => cP anyB wc (rawC r) c) rs clsI := HA.out.imp (fun r c h => cP.grow _ _ _ _ _ _ h (fun _ _ _ => trivial) (.of_kpt hk10 (fun b hb => by simp; omega)) hk10.size)
    obtain ⟨r1, e1, q1⟩ := hA2.at i ca hca
    obtain ⟨r2, e2, q2⟩ := hA2.at j cb hcb
    rw [HRA.out, Option.some.injEq] at e1
    rw [HRB.out, Option.some.injEq] at e2
    subst e1 e2
    have hX : clsX i j = (clsI.set i cb).set j ca := by unfold clsX; rw [hca, hcb]
    have hR : RdX 6 cP anyB wc (.slice (some ⟨G, 0, none⟩) 7 7) (clsX i j) := by
      rw [hX]
      exact ((hO.rd (sP.grow _)).step (sP.grow _) (fun _ _ _ => trivial) (fun _ _ _ => rfl) (Nat.le_refl _)).raw (all2_set (all2_set hA2 i q2) j q1)
    have hNew := New_t (clsX i j) (some ⟨G, 0, none⟩) 7 anyB wc (by rw [clsX_len]; exact hR) (clsX_sz i j) (clsX_few i j)
    rw [clsX_len] at hNew
    have HNew := Lib.hid hNew
    have hX10 := (hk10.2 _ (Array.getElem?_eq_some_iff.1 HBX.out).1 (by simp)).trans HBX.out
    obtain ⟨xl, xc, -⟩ := boxN hX10
    have x0 := xc 0 _ rfl
    simp only [Nat.zero_add] at x0
    have HCc := Lib.hid (HC10.out.trans (hk10.below (fun x hx => by rw [List.mem_singleton.1 hx]; exact HG1.out) HC10.out.size))
    obtain ⟨f1, f2, f3, f4, f5, f6⟩ := ifs_all ⟨i, hi7⟩ ⟨j, hj7⟩
    dsimp only at f1 f2 f3 f4 f5 f6
    clear hNew hR hX hA2 q1 q2 hO hk10 hX10 xc hca hcb
    go_wp2_with fail
    refine HNew.out.mono ?_
    rintro e W0 ⟨tb, mb, vs, rfl, ht, hb⟩
    have HT := Lib.hid ht
    have HW := Lib.hid (HB1.out.trans ((HCc.out.trans (hb.mono HCc.out.size)).mono HB1.out.size))
    obtain ⟨T, hT⟩ : ∃ x, skX i j = x := ⟨_, rfl⟩
    rw [hT] at f1 f2 f3 f4 f5 f6
    obtain ⟨K, hK⟩ : ∃ x, keepL (clsX i j) = x := ⟨_, rfl⟩
    have HK : Hid (K.map skOf = T) := Lib.hid (by rw [← hK]; exact hT)
    rw [hK] at HT
    obtain ⟨ok, hok⟩ : ∃ x, (fun b => wc.heap.size ≤ b) = x := ⟨_, rfl⟩
    rw [hok] at HT
    have HB0 : Hid (Below W0.heap.size W0 W0) := Lib.hid (Below.refl _ _)
    have F1 := Lib.hid f1
    have F2 := Lib.hid f2
    have F3 := Lib.hid f3
    have F4 := Lib.hid f4
    have F5 := Lib.hid f5
    have F6 := Lib.hid f6
    clear hT hK hok ht hb HNew HCc x0 xl f1 f2 f3 f4 f5 f6
    go_wp2_with fail
    refine (Ifaces_t ok tb mb vs K _ W0 (HT.out.below HB0.out) (sz_small (by decide))).mono ?_
    rw [HK.out, F1.out]
    rintro e W1 ⟨p0, c0, rfl, ho, hb⟩
    have HB1 := Lib.hid (HB0.out.trans (hb.mono HB0.out.size))
    have ho2 := ho.rd.keep (w' := W1.alloc (.cells #[.string ⟨#[80]⟩, .string ⟨#[83]⟩, .string ⟨#[81]⟩, .string ⟨#[84]⟩] 9)) (fun b _ hl => (below_alR _ _).block _ hl) (fun _ h _ => h) (below_alR _ _).size
    have hl2 := rdX_rdc (str_box (w := W1) [⟨#[80]⟩, ⟨#[83]⟩, ⟨#[81]⟩, ⟨#[84]⟩] #[.string ⟨#[80]⟩, .string ⟨#[83]⟩, .string ⟨#[81]⟩, .string ⟨#[84]⟩] rfl 4 rfl) (by unfold maxLen; decide)
    obtain ⟨W2, hw2⟩ : ∃ W, W = W1.alloc (.cells #[.string ⟨#[80]⟩, .string ⟨#[83]⟩, .string ⟨#[81]⟩, .string ⟨#[84]⟩] 9) := ⟨_, rfl⟩
    rw [← hw2] at ho2 hl2
    have hb2 : Below W1.heap.size W1 W2 := by rw [hw2]; exact below_alR _ _
    have HB2 := Lib.hid (HB1.out.trans (hb2.mono HB1.out.size))
    have HO2 := Lib.hid ho2
    have HL2 := Lib.hid hl2
    clear ho hb ho2 hl2 hb2
    go_wp2_with fail
    rw [← hw2]
    clear hw2
    refine (S.strs_S _ _ _ _ _ _ W2 HO2.out HL2.out (by decide) (by decide)).mono ?_
    rw [S.eqB_iff.2 rfl]
    rintro e W3 ⟨rfl, nn, hnn⟩
    have HB3 : Hid (Below W0.heap.size W0 W3) := Lib.hid (by rw [hnn]; exact HB2.out.trans ((S.below_drewN _ _ _).mono HB2.out.size))
    clear hnn HO2 HL2 HB0 HB1 HB2
    go_wp2_with fail
    refine (Ifaces_t ok tb mb vs K _ W3 (HT.out.below HB3.out) (sz_small (by decide))).mono ?_
    rw [HK.out, F2.out]
    rintro e W4 ⟨p1, c1, rfl, ho, hb⟩
    have HB4 := Lib.hid (HB3.out.trans (hb.mono HB3.out.size))
    have ho2 := ho.rd.keep (w' := W4.alloc (.cells #[.string ⟨#[82]⟩, .string ⟨#[81]⟩, .string ⟨#[83]⟩, .string ⟨#[84]⟩, .string ⟨#[80]⟩] 9)) (fun b _ hl => (below_alR _ _).block _ hl) (fun _ h _ => h) (below_alR _ _).size
    have hl2 := rdX_rdc (str_box (w := W4) [⟨#[82]⟩, ⟨#[81]⟩, ⟨#[83]⟩, ⟨#[84]⟩, ⟨#[80]⟩] #[.string ⟨#[82]⟩, .string ⟨#[81]⟩, .string ⟨#[83]⟩, .string ⟨#[84]⟩, .string ⟨#[80]⟩] rfl 5 rfl) (by unfold maxLen; decide)
    obtain ⟨W5, hw5⟩ : ∃ W, W = W4.alloc (.cells #[.string ⟨#[82]⟩, .string ⟨#[81]⟩, .string ⟨#[83]⟩, .string ⟨#[84]⟩, .string ⟨#[80]⟩] 9) := ⟨_, rfl⟩
    rw [← hw5] at ho2 hl2
    have hb2 : Below W4.heap.size W4 W5 := by rw [hw5]; exact below_alR _ _
    have HB5 := Lib.hid (HB4.out.trans (hb2.mono HB4.out.size))
    have HO2 := Lib.hid ho2
    have HL2 := Lib.hid hl2
    clear ho hb ho2 hl2 hb2
    go_wp2_with fail
    rw [← hw5]
    clear hw5
    refine (S.strs_S _ _ _ _ _ _ W5 HO2.out HL2.out (by decide) (by decide)).mono ?_
    rw [S.eqB_iff.2 rfl]
    rintro e W6 ⟨rfl, nn, hnn⟩
    have HB6 : Hid (Below W0.heap.size W0 W6) := Lib.hid (by rw [hnn]; exact HB5.out.trans ((S.below_drewN _ _ _).mono HB5.out.size))
    clear hnn HO2 HL2 HB3 HB4 HB5
    go_wp2_with fail
    refine (Ifaces_t ok tb mb vs K _ W6 (HT.out.below HB6.out) (sz_small (by decide))).mono ?_
    rw [HK.out, F3.out]
    rintro e W7 ⟨p2, c2, rfl, ho, hb⟩
    have HB7 := Lib.hid (HB6.out.trans (hb.mono HB6.out.size))
    have ho2 := ho.rd.keep (w' := W7.alloc (.cells #[.string ⟨#[81]⟩, .string ⟨#[83]⟩, .string ⟨#[84]⟩] 9)) (fun b _ hl => (below_alR _ _).block _ hl) (fun _ h _ => h) (below_alR _ _).size
    have hl2 := rdX_rdc (str_box (w := W7) [⟨#[81]⟩, ⟨#[83]⟩, ⟨#[84]⟩] #[.string ⟨#[81]⟩, .string ⟨#[83]⟩, .string ⟨#[84]⟩] rfl 3 rfl) (by unfold maxLen; decide)
    obtain ⟨W8, hw8⟩ : ∃ W, W = W7.alloc (.cells #[.string ⟨#[81]⟩, .string ⟨#[83]⟩, .string ⟨#[84]⟩] 9) := ⟨_, rfl⟩
    rw [← hw8] at ho2 hl2
    have hb2 : Below W7.heap.size W7 W8 := by rw [hw8]; exact below_alR _ _
    have HB8 := Lib.hid (HB7.out.trans (hb2.mono HB7.out.size))
    have HO2 := Lib.hid ho2
    have HL2 := Lib.hid hl2
    clear ho hb ho2 hl2 hb2
    go_wp2_with fail
    rw [← hw8]
    clear hw8
    refine (S.strs_S _ _ _ _ _ _ W8 HO2.out HL2.out (by decide) (by decide)).mono ?_
    rw [S.eqB_iff.2 rfl]
    rintro e W9 ⟨rfl, nn, hnn⟩
    have HB9 : Hid (Below W0.heap.size W0 W9) := Lib.hid (by rw [hnn]; exact HB8.out.trans ((S.below_drewN _ _ _).mono HB8.out.size))
    clear hnn HO2 HL2 HB6 HB7 HB8
    go_wp2_with fail
    refine (Ifaces_t ok tb mb vs K _ W9 (HT.out.below HB9.out) (sz_small (by decide))).mono ?_
    rw [HK.out, F4.out]
    rintro e W10 ⟨p9, c9, rfl, -, hb⟩
    have HB10 := Lib.hid (HB9.out.trans (hb.mono HB9.out.size))
    clear hb HB9
    go_wp2_with fail
    refine (Sub_t ok tb mb vs K _ _ W10 (HT.out.below HB10.out) (sz_small (by decide)) (sz_small (by decide))).mono ?_
    rw [HK.out, F5.out]
    rintro e W11 ⟨rfl, hb⟩
    have HB11 := Lib.hid (HB10.out.trans (hb.mono HB10.out.size))
    clear hb HB10
    go_wp2_with fail
    refine (Sub_t ok tb mb vs K _ _ W11 (HT.out.below HB11.out) (sz_small (by decide)) (sz_small (by decide))).mono ?_
    rw [HK.out, F6.out]
    rintro e W12 ⟨rfl, hb⟩
    have HB12 := Lib.hid (HB11.out.trans (hb.mono HB11.out.size))
    clear hb HB11
    go_wp2_with fail
    go_ret
    exact ⟨rfl, HW.out.trans (HB12.out.mono HW.out.size)⟩
end Go.Proofs.Ytghihbjcjobdoaa.R
