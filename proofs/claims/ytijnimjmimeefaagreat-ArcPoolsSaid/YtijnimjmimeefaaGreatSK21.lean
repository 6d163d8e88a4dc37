/- Texts that the proof is made of, joined. No condition. -/
import Derived.Test.YtijnimjmimeefaaGreatSK18
import Derived.Test.YtijnimjmimeefaaGreatSK19
import Derived.Test.YtijnimjmimeefaaGreatSK16
import Derived.Test.YtijnimjmimeefaaGreatSK20
import Derived.Lib.SlBytesConst
import Derived.Test.YtijnimjmimeefaaGreatSKH
set_option linter.unusedVariables false
set_option linter.unusedSimpArgs false
namespace Go.Proofs.YtijnimjmimeefaaGreat.A
open Go.RowKit Go.Proofs.YtijnimjmimeefaaGreat.D Go.Proofs.YtijnimjmimeefaaGreat.O
theorem knownS_sz : szA knownS := by unfold szA szC szM szI; decide +kernel
theorem knownS_wf : wfA knownS := by unfold wfA wfC wfM okI; decide +kernel
theorem knownS_small : small knownS := by unfold small; decide +kernel
theorem knownS_formed : formedB knownS = true := by
 have := knownS_right
 unfold rightA at this
 simp only [Bool.and_eq_true] at this
 exact this.1
theorem knownS_bd : bdA knownS := formed_bd knownS_formed
theorem knownS_len : 100 < (putA knownS).length ∧ (putA knownS).length ≤ 1000000 := by decide +kernel
theorem knownS_take : (putA knownS).take 4 = [66, 79, 78, 49] := by
 unfold putA
 rw [if_pos knownS_right]
 rfl
theorem bad_read : readA [66, 79, 78, 50] = .error 21 := by unfold readA; rw [if_neg (by decide)]
def noneS : Cls := ⟨⟨#[]⟩, ⟨#[]⟩, [], 0, [], []⟩
theorem noneS_right : rightA [noneS] = false := by decide +kernel
theorem noneS_sz : szA [noneS] := by unfold szA szC szM szI; decide +kernel
theorem noneS_wf : wfA [noneS] := by unfold wfA wfC wfM okI; decide +kernel
theorem noneS_small : small [noneS] := by unfold small; decide +kernel
theorem knownS_ne : ¬ knownS = [] := by decide +kernel
theorem bd_nil : bdA [] := ⟨by simp, by simp⟩
theorem copied_few {a : Arch} (h : bdA a) : FewA a := ⟨h.1, fun c hc => ⟨(h.2 c hc).1, (h.2 c hc).2.1, (h.2 c hc).2.2.1, fun m hm => (h.2 c hc).2.2.2 m hm⟩⟩
theorem rd_front {w : World} {p : Option Addr} {n c k : Nat} {l : List UInt8} (h : Rd w (.slice p n c) l) (hk : k ≤ l.length) : Rd w (.slice p k c) (l.take k) := by
 obtain ⟨p', cap, e, h1, h2, h3⟩ := h
 simp only [Value.slice.injEq] at e
 obtain ⟨rfl, rfl, rfl⟩ := e
 refine ⟨p, c, by rw [List.length_take, Nat.min_eq_left hk], by rw [List.length_take]; omega, h2, fun a ha i x hx => h3 a ha i x ?_⟩
 rw [List.getElem?_take] at hx
 split at hx
 ·exact hx
 ·cases hx
theorem rd_marked (w : World) (l : List UInt8) (n : Nat) (hn : n = l.length) (C : Array Value) (hC : C.toList = l.map u8) (fz : Nat × Nat) : Rd (w.alloc (.cells C 5 fz)) (.slice (some ⟨w.heap.size, 0, none⟩) n n) l := by
 subst hn
 refine ⟨_, _, rfl, Nat.le_refl _, (fun e => by cases e), fun a ha i x hx => ?_⟩
 cases ha
 have h1 : (w.alloc (.cells C 5 fz)).heap[w.heap.size]? = some (.cells C 5 fz) := heap_alloc_new _ _
 have h2 : C[i]? = some (u8 x) := by rw [← Array.getElem?_toList, hC, List.getElem?_map, hx]; rfl
 rw [Go.WideShapes.add_plain]
 unfold World.cell?
 simp only
 rw [h1]
 simpa using h2
def KS (ta tx : Nat) (pA : Option Addr) (nA cA : Nat) (pX : Option Addr) (nX cX : Nat) (pB : Option Addr) (nB cB : Nat) (w0 W : World) : Prop :=
 W.heap[ta]? = some (.cells #[.slice pA nA cA] 24 (0, 0)) ∧ W.heap[tx]? = some (.cells #[.slice pX nX cX] 24 (0, 0)) ∧ RdX 6 cP anyB W (.slice pA nA cA) knownS ∧ RdX 6 cP anyB W (.slice pX nX cX) knownS ∧
  Own W 0 (.slice pB nB cB) (putA knownS) ∧ Glob W ∧ Below w0.heap.size w0 W ∧ w0.heap.size ≤ W.heap.size
theorem KS.next {ta tx nA cA nX cX nB cB : Nat} {pA pX pB : Option Addr} {w0 W W' : World} (h : KS ta tx pA nA cA pX nX cX pB nB cB w0 W) (hb : Below W.heap.size W W') : KS ta tx pA nA cA pX nX cX pB nB cB w0 W' := by
 obtain ⟨h1, h2, h3, h4, h5, h6, h7, h8⟩ := h
 exact ⟨(hb.block _ (Array.getElem?_eq_some_iff.1 h1).1).trans h1, (hb.block _ (Array.getElem?_eq_some_iff.1 h2).1).trans h2, h3.any cP.grow hb, h4.any cP.grow hb, h5.kpt (.of_below hb : Kpt [] W W') (fun _ _ => by simp), h6.below hb (Nat.le_refl _), h7.trans (hb.mono h8), Nat.le_trans h8 hb.size⟩
theorem KS.held {ta tx nA cA nX cX nB cB : Nat} {pA pX pB : Option Addr} {w0 W : World} (h : KS ta tx pA nA cA pX nX cX pB nB cB w0 W) : W.cell? ⟨ta, 0, none⟩ = some (.slice pA nA cA) ∧ W.cell? ⟨tx, 0, none⟩ = some (.slice pX nX cX) := by
 constructor
 ·simp [World.cell?, h.1]
 ·simp [World.cell?, h.2.1]
theorem KS.four {ta tx nA cA nX cX nB cB : Nat} {pA pX pB : Option Addr} {w0 W : World} (h : KS ta tx pA nA cA pX nX cX pB nB cB w0 W) : (convert 26 9 (.slice pB 4 cB)).run Tryz.prog W = .ok (.string ⟨#[66, 79, 78, 49]⟩) W := by
 have h1 := rd_front h.2.2.2.2.1.rd (k := 4) (by have := knownS_len.1; omega)
 rw [knownS_take] at h1
 exact conv_rd h1
set_option maxHeartbeats 8000000 in
set_option maxRecDepth 100000 in
theorem known_a (w : World) (hg : Glob w) : Calls Tryz.prog 9 #[] w fun e w' => e = .returned (.bool true) ∧ Below w.heap.size w w' := by
 have HG := Lib.hid hg
 clear hg
 go_enter Tryz.func9, Tryz.ntmps9
 go_wp2_with fail
 have hb0 := below_alM w (.cells #[.int .u8 0, .int .u8 1, .int .u8 4, .int .u8 2] 5)
 obtain ⟨w1, hw1⟩ : ∃ x, x = w.alloc (.cells #[.int .u8 0, .int .u8 1, .int .u8 4, .int .u8 2] 5) := ⟨_, rfl⟩
 have hx1 : w1.heap[w.heap.size]? = some (.cells #[.int .u8 0, .int .u8 1, .int .u8 4, .int .u8 2] 5 (0, 0)) := by rw [hw1]; exact heap_alloc_new _ _
 rw [← hw1] at hb0
 rw [← hw1]
 have hs1 : w1.heap.size = w.heap.size + 1 := by rw [hw1]; simp
 clear hw1
 have hrd : Rd w1 (.slice (some ⟨w.heap.size, 0, none⟩) 4 4) [0, 1, 4, 2] := by
  refine ⟨_, 4, rfl, by simp, (fun e => by cases e), fun a ha i x hx => ?_⟩
  cases ha
  obtain ⟨-, hc, -⟩ := boxN hx1
  have := hc i (u8 x) (by match i, hx with | 0, h => cases h; rfl | 1, h => cases h; rfl | 2, h => cases h; rfl | 3, h => cases h; rfl)
  rwa [Go.WideShapes.add_plain]
 refine (archive_p 1 2 3 4 [0, 1, 4, 2] [] _ _ w1 (by decide) (by decide) (by decide) (by decide) hrd (rd_nil _) (fun w' h => body_k _ (by decide) _ w' h (by decide)) (fun w' h => body_k _ (by decide) _ w' h (by decide)) (.inr (fun g e => by cases e; show w.heap.size < w1.heap.size; omega)) (.inl rfl)).mono ?_
 rintro e w2 ⟨pA, nA, cA, rfl, hr2, hb2⟩
 have hr2' : RdX 6 cP (fun b => w1.heap.size ≤ b) w2 (.slice pA nA cA) knownS := hr2
 have HR := Lib.hid hr2'
 have HB := Lib.hid (hb0.trans (hb2.mono hb0.size))
 have hs2 := hb2.size
 clear hr2 hr2' hb2 hb0 hrd hx1
 go_upto_region 2 with fail
 have hb3 := below_alM w2 (.cells #[.slice pA nA cA] 24)
 have HXA := Lib.hid (heap_alloc_new w2 (.cells #[.slice pA nA cA] 24))
 obtain ⟨w3, hw3⟩ : ∃ x, x = w2.alloc (.cells #[.slice pA nA cA] 24) := ⟨_, rfl⟩
 rw [← hw3] at hb3 HXA
 rw [← hw3]
 clear hw3
 obtain ⟨ta, hta⟩ : ∃ x, x = w2.heap.size := ⟨_, rfl⟩
 rw [← hta] at HXA
 replace HR := Lib.hid (HR.out.any cP.grow hb3 (ok := _))
 replace HB := Lib.hid (HB.out.trans (hb3.mono HB.out.size))
 have hs3 := hb3.size
 rw [← hta]
 clear hb3 hta
 obtain ⟨q1, q2, q3⟩ := boxN HXA.out
 have q4 := q2 0 _ rfl
 simp only [Nat.zero_add] at q4
 clear q2 q3
 go_wp2_with fail
 refine (put_a knownS _ pA nA cA w3 knownS_sz knownS_wf (fun _ => knownS_small) (HG.out.below HB.out (Nat.le_refl _)) HR.out).mono ?_
 rintro e w4 ⟨v, rfl, ho4, hb4⟩
 obtain ⟨pB, nB, cB, rfl⟩ := own_slice ho4
 replace HR := Lib.hid (HR.out.any cP.grow hb4 (ok := _))
 replace HB := Lib.hid (HB.out.trans (hb4.mono HB.out.size))
 replace HXA := Lib.hid ((hb4.block _ q1).trans HXA.out)
 have hs4 := hb4.size
 have HO := Lib.hid ho4
 clear hb4 ho4 q4
 go_wp2_with fail
 refine (read_a (.slice pB nB cB) (putA knownS) w4 HO.out.rd knownS_len.2 (HG.out.below HB.out (Nat.le_refl _))).mono ?_
 rintro e w5 ⟨hb5, hans⟩
 rw [read_put knownS_right knownS_wf] at hans
 obtain ⟨pX, nX, cX, rfl, hr5, -⟩ := hans
 replace HR := Lib.hid (HR.out.any cP.grow hb5 (ok := _))
 replace HB := Lib.hid (HB.out.trans (hb5.mono HB.out.size))
 replace HXA := Lib.hid ((hb5.block _ (by omega)).trans HXA.out)
 replace HO := Lib.hid (HO.out.kpt (.of_below hb5 : Kpt [] w4 w5) (fun _ _ => by simp))
 have hs5 := hb5.size
 have HX := Lib.hid hr5
 clear hb5 hr5
 go_upto_region 4 with fail
 have hb3 := below_alM w5 (.cells #[.slice pX nX cX] 24)
 have HXX := Lib.hid (heap_alloc_new w5 (.cells #[.slice pX nX cX] 24))
 obtain ⟨w6, hw6⟩ : ∃ x, x = w5.alloc (.cells #[.slice pX nX cX] 24) := ⟨_, rfl⟩
 rw [← hw6] at hb3 HXX
 rw [← hw6]
 clear hw6
 obtain ⟨tx, htx⟩ : ∃ x, x = w5.heap.size := ⟨_, rfl⟩
 rw [← htx] at HXX
 rw [← htx]
 have HK : Hid (KS ta tx pA nA cA pX nX cX pB nB cB w w6) := Lib.hid ⟨(hb3.block _ (by omega)).trans HXA.out, HXX.out, HR.out.step cP.grow (fun _ _ _ => trivial) (.of_below hb3) hb3.size, HX.out.step cP.grow (fun _ _ _ => trivial) (.of_below hb3) hb3.size, (HO.out.kpt (.of_below hb3 : Kpt [] w5 w6) (fun _ _ => by simp)).mono (Nat.zero_le _), HG.out.below (HB.out.trans (hb3.mono HB.out.size)) (Nat.le_refl _), HB.out.trans (hb3.mono HB.out.size), by have := hb3.size; omega⟩
 clear HR HX HO HB HXA HXX hb3 q1 htx hs1 hs2 hs3 hs4 hs5
 have hcs := Lib.run_convert_bytes_const w6 26 5 #[.int .u8 66, .int .u8 79, .int .u8 78, .int .u8 50] 4 4 Tryz.underlying26 Tryz.underlying5
 go_wp2_with fail
 clear hcs
 have hrd4 := rd_marked w6 [66, 79, 78, 50] 4 rfl #[.int .u8 66, .int .u8 79, .int .u8 78, .int .u8 50] rfl (4, 5)
 have hk4 := HK.out.next (below_alM w6 (.cells #[.int .u8 66, .int .u8 79, .int .u8 78, .int .u8 50] 5 (4, 5)))
 refine (read_a _ [66, 79, 78, 50] _ hrd4 (by decide) hk4.2.2.2.2.2.1).mono ?_
 rintro e w7 ⟨hb7, hans⟩
 rw [bad_read] at hans
 simp only at hans
 subst hans
 replace HK := Lib.hid (hk4.next hb7)
 clear hk4 hrd4 hb7
 go_upto_region 5 with fail
 obtain ⟨w8, hw8⟩ : ∃ x, x = w7.alloc (.cells #[.slice none 0 0] 24) := ⟨_, rfl⟩
 rw [← hw8]
 replace HK : Hid (KS ta tx pA nA cA pX nX cX pB nB cB w w8) := Lib.hid (by rw [hw8]; exact HK.out.next (below_alM _ _))
 clear hw8
 replace HK := Lib.hid (HK.out.next (below_drU w8))
 have hlb := HK.out.2.2.2.2.1.len
 obtain ⟨a1, c1, e1, hle, -⟩ := hlb
 simp only [Value.slice.injEq] at e1
 obtain ⟨-, rfl, rfl⟩ := e1
 have hlen := knownS_len.1
 have hcap : (4 : Int) ≤ (cB : Int) := by omega
 have hgt : (100 : Int) < ((putA knownS).length : Int) := by omega
 refine wp_region_held_drew (S := fun W => W.cell? ⟨ta, 0, none⟩ = some (.slice pA nA cA) ∧ W.cell? ⟨tx, 0, none⟩ = some (.slice pX nX cX)) (by kernel_rfl) HK.out.held (fun hHeld => ?_)
 refine tkH 0 ?_ (fun W hSw => ?_) hHeld ?_
 rotate_left 1
 ·(clear hSw; first | (go_simp; done) | (go_simp; with_reducible rfl))
 try go_frame
 refine tkH 1 ?_ (fun W hSw => ?_) hHeld ?_
 rotate_left 1
 ·(clear hSw; first | (go_simp; done) | (go_simp; with_reducible rfl))
 try go_frame
 refine tkH 2 ?_ (fun W hSw => ?_) hHeld ?_
 rotate_left 1
 ·(clear hSw; first | (go_simp; done) | (go_simp; with_reducible rfl))
 try go_frame
 refine tkH 3 ?_ (fun W hSw => ?_) hHeld ?_
 rotate_left 1
 ·(clear hSw; first | (go_simp; done) | (go_simp; with_reducible rfl))
 try go_frame
 refine tkH 4 ?_ (fun W hSw => ?_) hHeld ?_
 rotate_left 1
 ·(clear hSw; first | (go_simp; done) | (go_simp; with_reducible rfl))
 try go_frame
 refine tkH 5 ?_ (fun W hSw => ?_) hHeld ?_
 rotate_left 1
 ·(clear hSw; first | (go_simp; done) | (go_simp; with_reducible rfl))
 try go_frame
 refine wpAnyH_and (T := fun W => (convert 26 9 (.slice pB 4 cB)).run Tryz.prog W = .ok (.string ⟨#[66, 79, 78, 49]⟩) W) _ _ _ _ ?_
 replace hHeld := And.intro hHeld (HK.out.four)
 refine tkH 6 ?_ (fun W hSw => ?_) hHeld ?_
 rotate_left 1
 ·(have hT := hSw.2; clear hSw; first | (go_simp; done) | (go_simp; with_reducible rfl))
 try go_frame
 refine tkH 7 ?_ (fun W hSw => ?_) hHeld ?_
 rotate_left 1
 ·(clear hSw; first | (go_simp; done) | (go_simp; with_reducible rfl))
 try go_frame
 refine tkH 8 ?_ (fun W hSw => ?_) hHeld ?_
 rotate_left 1
 ·(clear hSw; first | (go_simp; done) | (go_simp; with_reducible rfl))
 try go_frame
 refine tkH 9 ?_ (fun W hSw => ?_) hHeld ?_
 rotate_left 1
 ·(clear hSw; first | (go_simp; done) | (go_simp; with_reducible rfl))
 try go_frame
 refine tkH 10 ?_ (fun W hSw => ?_) hHeld ?_
 rotate_left 1
 ·(clear hSw; first | (go_simp; done) | (go_simp; with_reducible rfl))
 try go_frame
 refine tkH 11 ?_ (fun W hSw => ?_) hHeld ?_
 rotate_left 1
 ·(clear hSw; first | (go_simp; done) | (go_simp; with_reducible rfl))
 try go_frame
 refine tkH 12 ?_ (fun W hSw => ?_) hHeld ?_
 rotate_left 1
 ·(clear hSw; first | (go_simp; done) | (go_simp; with_reducible rfl))
 try go_frame
 refine tkH 13 ?_ (fun W hSw => ?_) hHeld ?_
 rotate_left 1
 ·(clear hSw; first | (go_simp; done) | (go_simp; with_reducible rfl))
 try go_frame
 refine tkH 14 ?_ (fun W hSw => ?_) hHeld ?_
 rotate_left 1
 ·(try dsimp only at hSw); first | (go_simp; done) | (go_simp; with_reducible rfl)
 try go_frame
 refine tkH 15 ?_ (fun W hSw => ?_) hHeld ?_
 rotate_left 1
 ·(try dsimp only at hSw); first | (go_simp; done) | (go_simp; with_reducible rfl)
 try go_frame
 refine wpAnyH_ready (rs := [16]) (by kernel_rfl) (by simp) ?_
 refine AllReadyH.cons (o := _) (by simp only [List.getElem?_toArray, List.getElem?_cons_succ, List.getElem?_cons_zero]; rfl) (fun K hK => ?_) AllReadyH.nil
 clear hHeld
 go_simp
 refine (same_a knownS knownS _ _ _ _ _ _ _ _ _ knownS_bd knownS_bd HK.out.2.2.2.1 HK.out.2.2.1).mono ?_
 rintro e x1 ⟨rfl, hbb⟩
 rw [eqA_self]
 replace HK := Lib.hid (HK.out.next hbb)
 clear hbb
 refine hK.out _ _ ⟨HK.out.held, HK.out.four⟩ (fun hHeld => ?_)
 clear hK K
 try go_frame
 refine tkH 17 ?_ (fun W hSw => ?_) hHeld ?_
 rotate_left 1
 ·(clear hSw; first | (go_simp; done) | (go_simp; with_reducible rfl))
 try go_frame
 refine tkH 18 ?_ (fun W hSw => ?_) hHeld ?_
 rotate_left 1
 ·(clear hSw; first | (go_simp; done) | (go_simp; with_reducible rfl))
 try go_frame
 refine tkH 19 ?_ (fun W hSw => ?_) hHeld ?_
 rotate_left 1
 ·(clear hSw; first | (go_simp; done) | (go_simp; with_reducible rfl))
 try go_frame
 refine tkH 20 ?_ (fun W hSw => ?_) hHeld ?_
 rotate_left 1
 ·(clear hSw; first | (go_simp; done) | (go_simp; with_reducible rfl))
 try go_frame
 refine tkH 21 ?_ (fun W hSw => ?_) hHeld ?_
 rotate_left 1
 ·(clear hSw; first | (go_simp; done) | (go_simp; with_reducible rfl))
 try go_frame
 refine tkH 22 ?_ (fun W hSw => ?_) hHeld ?_
 rotate_left 1
 ·(clear hSw; first | (go_simp; done) | (go_simp; with_reducible rfl))
 try go_frame
 refine tkH 23 ?_ (fun W hSw => ?_) hHeld ?_
 rotate_left 1
 ·(try dsimp only at hSw); first | (go_simp; done) | (go_simp; with_reducible rfl)
 try go_frame
 refine wpAnyH_ready (rs := [24]) (by kernel_rfl) (by simp) ?_
 refine AllReadyH.cons (o := _) (by simp only [List.getElem?_toArray, List.getElem?_cons_succ, List.getElem?_cons_zero]; rfl) (fun K hK => ?_) AllReadyH.nil
 clear hHeld
 go_simp
 refine (right_a knownS _ _ _ _ _ knownS_sz knownS_wf (fun _ => knownS_small) HK.out.2.2.2.2.2.1 HK.out.2.2.1).mono ?_
 rintro e x2 ⟨rfl, hbb⟩
 rw [knownS_right]
 replace HK := Lib.hid (HK.out.next hbb)
 clear hbb
 refine hK.out _ _ ⟨HK.out.held, HK.out.four⟩ (fun hHeld => ?_)
 clear hK K
 try go_frame
 refine tkH 25 ?_ (fun W hSw => ?_) hHeld ?_
 rotate_left 1
 ·(clear hSw; first | (go_simp; done) | (go_simp; with_reducible rfl))
 try go_frame
 refine tkH 26 ?_ (fun W hSw => ?_) hHeld ?_
 rotate_left 1
 ·(clear hSw; first | (go_simp; done) | (go_simp; with_reducible rfl))
 try go_frame
 refine tkH 27 ?_ (fun W hSw => ?_) hHeld ?_
 rotate_left 1
 ·(try dsimp only at hSw); first | (go_simp; done) | (go_simp; with_reducible rfl)
 try go_frame
 refine tkH 29 ?_ (fun W hSw => ?_) hHeld ?_
 rotate_left 1
 ·(try dsimp only at hSw); first | (go_simp; done) | (go_simp; with_reducible rfl)
 try go_frame
 refine wpAnyH_ready (rs := [28]) (by kernel_rfl) (by simp) ?_
 refine AllReadyH.cons (o := _) (by simp only [List.getElem?_toArray, List.getElem?_cons_succ, List.getElem?_cons_zero]; rfl) (fun K hK => ?_) AllReadyH.nil
 clear hHeld
 go_simp
 refine (copy_v knownS _ _ _ _ HK.out.2.2.1 (copied_few knownS_bd)).mono ?_
 rintro e x3 ⟨pC, nC, cC, rfl, hrc, hbb⟩
 replace HK := Lib.hid (HK.out.next hbb)
 have HRC := Lib.hid (hrc.step (ok' := anyB) cP.grow (fun _ _ _ => trivial) (fun _ _ _ => rfl) (Nat.le_refl _))
 clear hbb hrc
 refine hK.out _ _ ⟨HK.out.held, HK.out.four⟩ (fun hHeld => ?_)
 clear hK K
 try go_frame
 refine wpAnyH_ready (rs := [30]) (by kernel_rfl) (by simp) ?_
 refine AllReadyH.cons (o := _) (by simp only [List.getElem?_toArray, List.getElem?_cons_succ, List.getElem?_cons_zero]; rfl) (fun K hK => ?_) AllReadyH.nil
 clear hHeld
 go_simp
 refine (same_a knownS knownS _ _ _ _ _ _ _ _ _ knownS_bd knownS_bd HRC.out HK.out.2.2.1).mono ?_
 rintro e x4 ⟨rfl, hbb⟩
 rw [eqA_self]
 replace HK := Lib.hid (HK.out.next hbb)
 clear hbb HRC
 refine hK.out _ _ ⟨HK.out.held, HK.out.four⟩ (fun hHeld => ?_)
 clear hK K
 try go_frame
 refine tkH 31 ?_ (fun W hSw => ?_) hHeld ?_
 rotate_left 1
 ·(clear hSw; first | (go_simp; done) | (go_simp; with_reducible rfl))
 try go_frame
 refine tkH 32 ?_ (fun W hSw => ?_) hHeld ?_
 rotate_left 1
 ·(clear hSw; first | (go_simp; done) | (go_simp; with_reducible rfl))
 try go_frame
 refine tkH 33 ?_ (fun W hSw => ?_) hHeld ?_
 rotate_left 1
 ·(try dsimp only at hSw); first | (go_simp; done) | (go_simp; with_reducible rfl)
 try go_frame
 refine tkH 34 ?_ (fun W hSw => ?_) hHeld ?_
 rotate_left 1
 ·(clear hSw; first | (go_simp; done) | (go_simp; with_reducible rfl))
 try go_frame
 refine wpAnyH_ready (rs := [35]) (by kernel_rfl) (by simp) ?_
 refine AllReadyH.cons (o := _) (by simp only [List.getElem?_toArray, List.getElem?_cons_succ, List.getElem?_cons_zero]; rfl) (fun K hK => ?_) AllReadyH.nil
 clear hHeld
 go_simp
 refine (same_a knownS [] _ anyB _ _ _ _ _ _ _ knownS_bd bd_nil HK.out.2.2.1 (RdX.nil _ _ _ _)).mono ?_
 rintro e x5 ⟨rfl, hbb⟩
 rw [eqA_no knownS_ne]
 replace HK := Lib.hid (HK.out.next hbb)
 clear hbb
 refine hK.out _ _ ⟨HK.out.held, HK.out.four⟩ (fun hHeld => ?_)
 clear hK K
 try go_frame
 refine tkH 36 ?_ (fun W hSw => ?_) hHeld ?_
 rotate_left 1
 ·(clear hSw; first | (go_simp; done) | (go_simp; with_reducible rfl))
 try go_frame
 refine tkH 37 ?_ (fun W hSw => ?_) hHeld ?_
 rotate_left 1
 ·(clear hSw; first | (go_simp; done) | (go_simp; with_reducible rfl))
 try go_frame
 refine tkH 38 ?_ (fun W hSw => ?_) hHeld ?_
 rotate_left 1
 ·(clear hSw; first | (go_simp; done) | (go_simp; with_reducible rfl))
 try go_frame
 refine tkH 39 ?_ (fun W hSw => ?_) hHeld ?_
 rotate_left 1
 ·(clear hSw; first | (go_simp; done) | (go_simp; with_reducible rfl))
 try go_frame
 refine wpAnyH_ready (rs := [40]) (by kernel_rfl) (by simp) ?_
 refine AllReadyH.cons (o := _) (by simp only [List.getElem?_toArray, List.getElem?_cons_succ, List.getElem?_cons_zero]; rfl) (fun K hK => ?_) AllReadyH.nil
 clear hHeld
 go_simp
 replace HK := Lib.hid (HK.out.next (below_alM _ (.cells #[.string ⟨#[]⟩, .string ⟨#[]⟩, .slice none 0 0, .int .i64 0, .slice none 0 0, .slice none 0 0] 52)))
 refine hK.out _ _ ⟨HK.out.held, HK.out.four⟩ (fun hHeld => ?_)
 clear hK K
 try go_frame
 refine tkH 41 ?_ (fun W hSw => ?_) hHeld ?_
 rotate_left 1
 ·(clear hSw; first | (go_simp; done) | (go_simp; with_reducible rfl))
 try go_frame
 refine wpAnyH_ready (rs := [42]) (by kernel_rfl) (by simp) ?_
 refine AllReadyH.cons (o := _) (by simp only [List.getElem?_toArray, List.getElem?_cons_succ, List.getElem?_cons_zero]; rfl) (fun K hK => ?_) AllReadyH.nil
 clear hHeld
 go_simp
 have hrn := rd_lits2 (ok := anyB) (W := x5) shape_cls cP.grow (All2.cons (show cP anyB x5 [.string ⟨#[]⟩, .string ⟨#[]⟩, .slice none 0 0, .int .i64 0, .slice none 0 0, .slice none 0 0] noneS from ⟨_, _, _, rfl, RdX.nil _ _ _ _, RdX.nil _ _ _ _, RdX.nil _ _ _ _⟩) All2.nil) _ rfl 52 1 rfl trivial
 refine (right_a [noneS] _ _ _ _ _ noneS_sz noneS_wf (fun _ => noneS_small) HK.out.2.2.2.2.2.1 hrn).mono ?_
 rintro e x6 ⟨rfl, hbb⟩
 rw [noneS_right]
 replace HK := Lib.hid (HK.out.next hbb)
 clear hbb
 refine hK.out _ _ ⟨HK.out.held, HK.out.four⟩ (fun hHeld => ?_)
 clear hK K
 try go_frame
 refine tkH 43 ?_ (fun W hSw => ?_) hHeld ?_
 rotate_left 1
 ·(clear hSw; first | (go_simp; done) | (go_simp; with_reducible rfl))
 try go_frame
 refine tkH 44 ?_ (fun W hSw => ?_) hHeld ?_
 rotate_left 1
 ·(clear hSw; first | (go_simp; done) | (go_simp; with_reducible rfl))
 try go_frame
 refine tkH 45 ?_ (fun W hSw => ?_) hHeld ?_
 rotate_left 1
 ·(clear hSw; first | (go_simp; done) | (go_simp; with_reducible rfl))
 try go_frame
 refine wpAnyH_done (by kernel_rfl) ?_ _
 go_wp2_with fail
 go_ret
 exact ⟨rfl, HK.out.2.2.2.2.2.2.1⟩
end Go.Proofs.YtijnimjmimeefaaGreat.A
