/- Texts that the proof is made of, joined. No condition. -/
import Derived.Test.YtijnimjmimeefaaGreatSK8
import Derived.Test.YtijnimjmimeefaaGreatSK13
set_option linter.unusedVariables false
set_option linter.unusedSimpArgs false
namespace Go.Proofs.YtijnimjmimeefaaGreat.A
open Go.RowKit Go.Proofs.YtijnimjmimeefaaGreat.D Go.Proofs.YtijnimjmimeefaaGreat.O
theorem pUse_at {L : List ByteArray} {o u : Nat} (h : usesI (o : Int) = u) : pUse L o =
 if (u : Int) = 1 then pb pInt fun n => pr ((o : Int), n, 0, es, es, es, es) else
 if (u : Int) = 2 then pb (pText L) fun s => pr ((o : Int), 0, 0, s, es, es, es) else
 if (u : Int) = 3 then pb (pNum 2000) fun k => pr ((o : Int), 0, (k : Int), es, es, es, es) else
 if (u : Int) = 4 then pb (pText L) fun c => pb (pText L) fun m => pr ((o : Int), 0, 0, es, c, m, es) else
 if (u : Int) = 5 then pb (pText L) fun c => pb (pText L) fun m => pb (pText L) fun d => pr ((o : Int), 0, 0, es, c, m, d) else
 if (u : Int) = 6 then pb (pText L) fun c => pr ((o : Int), 0, 0, es, c, es, es) else pr ((o : Int), 0, 0, es, es, es, es) := by
 unfold pUse
 rw [h]
set_option maxHeartbeats 16000000 in
set_option maxRecDepth 100000 in
theorem instr_s (C : Cx) (s0 : St) (w : World) (h : Src w C s0) (_hg : Glob w) : Calls Tryz.prog 147 #[.pointer (some ⟨C.sb, 0, none⟩)] w (TookX C (sP insC) gI (pIns C.L) s0 w) := by
 have hb0 : Below w.heap.size w (w.alloc (.cells #[.int .i64 0, .int .i32 0, .int .i64 0, .string ⟨#[]⟩, .string ⟨#[]⟩, .string ⟨#[]⟩, .string ⟨#[]⟩] 61)) := ((Below.refl _ _).alloc (Nat.le_refl _) _)
 have hs0 := h.below hb0
 have ht := h.top
 have hx0 : (w.alloc (.cells #[.int .i64 0, .int .i32 0, .int .i64 0, .string ⟨#[]⟩, .string ⟨#[]⟩, .string ⟨#[]⟩, .string ⟨#[]⟩] 61)).heap[w.heap.size]? = some (.cells #[.int .i64 0, .int .i32 0, .int .i64 0, .string ⟨#[]⟩, .string ⟨#[]⟩, .string ⟨#[]⟩, .string ⟨#[]⟩] 61 (0, 0)) := heap_alloc_new _ _
 have F0 : Fs C w (w.alloc (.cells #[.int .i64 0, .int .i32 0, .int .i64 0, .string ⟨#[]⟩, .string ⟨#[]⟩, .string ⟨#[]⟩, .string ⟨#[]⟩] 61)) := .of_below hb0
 obtain ⟨q1, q2, c0, c1, f2⟩ := hs0.cells
 obtain ⟨-, b0, -⟩ := boxN hx0
 go_enter Tryz.func147, Tryz.ntmps147
 go_wp2_with fail
 refine (num_s C s0 43 _ _ hs0 (by rfl) (by decide)).mono ?_
 rintro r w1 ⟨n1, s1, rfl, hn1, t1, hs1, hf1⟩
 have hx1 := hf1.box hs0 ht hx0
 have HT1 := Lib.hid t1
 have F1 := F0.trans hf1
 clear t1
 obtain ⟨q1_1, q2_1, c0_1, c1_1, f2_1⟩ := hs1.cells
 obtain ⟨hl1, hcs1, hfz1⟩ := boxN hx1
 have y1_0 := hcs1 0 _ rfl
 have y1_1 := hcs1 1 _ rfl
 have y1_2 := hcs1 2 _ rfl
 have y1_3 := hcs1 3 _ rfl
 have y1_4 := hcs1 4 _ rfl
 have y1_5 := hcs1 5 _ rfl
 have y1_6 := hcs1 6 _ rfl
 have z1_0 := hfz1 0
 have z1_1 := hfz1 1
 have z1_2 := hfz1 2
 have z1_3 := hfz1 3
 have z1_4 := hfz1 4
 have z1_5 := hfz1 5
 have z1_6 := hfz1 6
 simp only [Nat.zero_add] at y1_0 y1_1 y1_2 y1_3 y1_4 y1_5 y1_6
 obtain ⟨p, hp⟩ : ∃ p, p = pUse C.L n1 := ⟨_, rfl⟩
 have HQ := Lib.hid hp.symm
 have hbB : Below w1.heap.size w1 (w1.alloc (.cells #[.int .i64 (n1 : Int), .int .i32 0, .int .i64 0, .string ⟨#[]⟩, .string ⟨#[]⟩, .string ⟨#[]⟩, .string ⟨#[]⟩] 61)) := (Below.refl _ _).alloc (Nat.le_refl _) _
 have hy2 : (w1.alloc (.cells #[.int .i64 (n1 : Int), .int .i32 0, .int .i64 0, .string ⟨#[]⟩, .string ⟨#[]⟩, .string ⟨#[]⟩, .string ⟨#[]⟩] 61)).heap[w1.heap.size]? = some (.cells #[.int .i64 (n1 : Int), .int .i32 0, .int .i64 0, .string ⟨#[]⟩, .string ⟨#[]⟩, .string ⟨#[]⟩, .string ⟨#[]⟩] 61 (0, 0)) := heap_alloc_new _ _
 have hty : C.top ≤ w1.heap.size := Nat.le_trans ht F1.size
 have hs2 := hs1.below hbB
 have hx2 := Below.box hbB hx1
 have F2 := F1.trans (.of_below hbB)
 have hne : w.heap.size < w1.heap.size := hl1
 skip
 have hu6 := uses_six (n1 : Int)
 rcases hu6 with hU | hU | hU | hU | hU | hU | hU
 ·have HP := Lib.hid (hp.trans (pUse_at (u := 0) hU))
  clear hp
  go_wp2_with fail
  refine (uses_any (n1 : Int) _).mono ?_
  rintro r w2 ⟨rfl, hw⟩
  rw [hw] at hs2 hx2 hy2 F2 hbB
  obtain ⟨q1_2, q2_2, c0_2, c1_2, f2_2⟩ := hs2.cells
  obtain ⟨hl2, hcs2, hfz2⟩ := boxN hx2
  have y2_0 := hcs2 0 _ rfl
  have y2_1 := hcs2 1 _ rfl
  have y2_2 := hcs2 2 _ rfl
  have y2_3 := hcs2 3 _ rfl
  have y2_4 := hcs2 4 _ rfl
  have y2_5 := hcs2 5 _ rfl
  have y2_6 := hcs2 6 _ rfl
  have z2_0 := hfz2 0
  have z2_1 := hfz2 1
  have z2_2 := hfz2 2
  have z2_3 := hfz2 3
  have z2_4 := hfz2 4
  have z2_5 := hfz2 5
  have z2_6 := hfz2 6
  simp only [Nat.zero_add] at y2_0 y2_1 y2_2 y2_3 y2_4 y2_5 y2_6
  obtain ⟨yl2, yc2, yf2⟩ := boxN hy2
  have u2_0 := yc2 0 _ rfl
  have u2_1 := yc2 1 _ rfl
  have u2_2 := yc2 2 _ rfl
  have u2_3 := yc2 3 _ rfl
  have u2_4 := yc2 4 _ rfl
  have u2_5 := yc2 5 _ rfl
  have u2_6 := yc2 6 _ rfl
  have v2_0 := yf2 0
  have v2_1 := yf2 1
  have v2_2 := yf2 2
  have v2_3 := yf2 3
  have v2_4 := yf2 4
  have v2_5 := yf2 5
  have v2_6 := yf2 6
  simp only [Nat.zero_add] at u2_0 u2_1 u2_2 u2_3 u2_4 u2_5 u2_6
  clear hw b0 y1_0 y1_1 y1_2 y1_3 y1_4 y1_5 y1_6 z1_0 z1_1 z1_2 z1_3 z1_4 z1_5 z1_6 hcs1 hfz1
  rw [hU]
  go_wp2_with fail
  have hkk : ∀ W, Kpt [w.heap.size, w1.heap.size] w2 W → Src W C s1 ∧ Fs C w W := fun W k => ⟨hs2.kpt k (fun x hx => by simp; omega), Fs.fin F2 (fun x hx => by simp at hx; omega) k⟩
  refine bodyPost_ret (v := .agg (insC ((n1 : Int), (0 : Int), (0 : Int), es, es, es, es)).toArray) (by simp [results, Tryz.results147, go_sem, insC, es, y2_0, y2_1, y2_2, y2_3, y2_4, y2_5, y2_6, u2_0, u2_1, u2_2, u2_3, u2_4, u2_5, u2_6]) rfl ⟨_, ((n1 : Int), (0 : Int), (0 : Int), es, es, es, es), s1, rfl, rfl, ?_, took_pb HT1.out ?_, ?_, ?_⟩
  ·refine ⟨⟨?_, ?_, ?_, ?_⟩, ?_, ?_⟩ <;> simp only [es] <;> first | omega | decide
  ·rw [← show pUse C.L n1 = pUse C.L n1 from rfl]; have hq := HP.out; first | (rw [show pUse C.L n1 = p from HQ.out, hq]; exact adv_pr _ _) | skip
  ·exact (hkk _ (Kpt.snoc (Kpt.snoc (Kpt.snoc (Kpt.snoc (Kpt.snoc (Kpt.snoc (Kpt.snoc (Kpt.refl _ _) (by simp)) (by simp)) (by simp)) (by simp)) (by simp)) (by simp)) (by simp))).1
  ·exact (hkk _ (Kpt.snoc (Kpt.snoc (Kpt.snoc (Kpt.snoc (Kpt.snoc (Kpt.snoc (Kpt.snoc (Kpt.refl _ _) (by simp)) (by simp)) (by simp)) (by simp)) (by simp)) (by simp)) (by simp))).2
 ·have HP := Lib.hid (hp.trans (pUse_at (u := 1) hU))
  clear hp
  go_wp2_with fail
  refine (uses_any (n1 : Int) _).mono ?_
  rintro r w2 ⟨rfl, hw⟩
  rw [hw] at hs2 hx2 hy2 F2 hbB
  obtain ⟨q1_2, q2_2, c0_2, c1_2, f2_2⟩ := hs2.cells
  obtain ⟨hl2, hcs2, hfz2⟩ := boxN hx2
  have y2_0 := hcs2 0 _ rfl
  have y2_1 := hcs2 1 _ rfl
  have y2_2 := hcs2 2 _ rfl
  have y2_3 := hcs2 3 _ rfl
  have y2_4 := hcs2 4 _ rfl
  have y2_5 := hcs2 5 _ rfl
  have y2_6 := hcs2 6 _ rfl
  have z2_0 := hfz2 0
  have z2_1 := hfz2 1
  have z2_2 := hfz2 2
  have z2_3 := hfz2 3
  have z2_4 := hfz2 4
  have z2_5 := hfz2 5
  have z2_6 := hfz2 6
  simp only [Nat.zero_add] at y2_0 y2_1 y2_2 y2_3 y2_4 y2_5 y2_6
  obtain ⟨yl2, yc2, yf2⟩ := boxN hy2
  have u2_0 := yc2 0 _ rfl
  have u2_1 := yc2 1 _ rfl
  have u2_2 := yc2 2 _ rfl
  have u2_3 := yc2 3 _ rfl
  have u2_4 := yc2 4 _ rfl
  have u2_5 := yc2 5 _ rfl
  have u2_6 := yc2 6 _ rfl
  have v2_0 := yf2 0
  have v2_1 := yf2 1
  have v2_2 := yf2 2
  have v2_3 := yf2 3
  have v2_4 := yf2 4
  have v2_5 := yf2 5
  have v2_6 := yf2 6
  simp only [Nat.zero_add] at u2_0 u2_1 u2_2 u2_3 u2_4 u2_5 u2_6
  clear hw b0 y1_0 y1_1 y1_2 y1_3 y1_4 y1_5 y1_6 z1_0 z1_1 z1_2 z1_3 z1_4 z1_5 z1_6 hcs1 hfz1
  rw [hU]
  go_wp2_with fail
  refine (int_s C s1 _ hs2).mono ?_
  rintro r w3 ⟨n3, s3, rfl, hn3, t3, hs3, hf3⟩
  have hx3 := hf3.box hs2 ht hx2
  have HT3 := Lib.hid t3
  have F3 := F2.trans hf3
  clear t3
  have hy3 := hf3.box hs2 hty hy2
  obtain ⟨q1_3, q2_3, c0_3, c1_3, f2_3⟩ := hs3.cells
  obtain ⟨hl3, hcs3, hfz3⟩ := boxN hx3
  have y3_0 := hcs3 0 _ rfl
  have y3_1 := hcs3 1 _ rfl
  have y3_2 := hcs3 2 _ rfl
  have y3_3 := hcs3 3 _ rfl
  have y3_4 := hcs3 4 _ rfl
  have y3_5 := hcs3 5 _ rfl
  have y3_6 := hcs3 6 _ rfl
  have z3_0 := hfz3 0
  have z3_1 := hfz3 1
  have z3_2 := hfz3 2
  have z3_3 := hfz3 3
  have z3_4 := hfz3 4
  have z3_5 := hfz3 5
  have z3_6 := hfz3 6
  simp only [Nat.zero_add] at y3_0 y3_1 y3_2 y3_3 y3_4 y3_5 y3_6
  obtain ⟨yl3, yc3, yf3⟩ := boxN hy3
  have u3_0 := yc3 0 _ rfl
  have u3_1 := yc3 1 _ rfl
  have u3_2 := yc3 2 _ rfl
  have u3_3 := yc3 3 _ rfl
  have u3_4 := yc3 4 _ rfl
  have u3_5 := yc3 5 _ rfl
  have u3_6 := yc3 6 _ rfl
  have v3_0 := yf3 0
  have v3_1 := yf3 1
  have v3_2 := yf3 2
  have v3_3 := yf3 3
  have v3_4 := yf3 4
  have v3_5 := yf3 5
  have v3_6 := yf3 6
  simp only [Nat.zero_add] at u3_0 u3_1 u3_2 u3_3 u3_4 u3_5 u3_6
  go_wp2_with fail
  have hkk : ∀ W, Kpt [w.heap.size, w1.heap.size] w3 W → Src W C s3 ∧ Fs C w W := fun W k => ⟨hs3.kpt k (fun x hx => by simp; omega), Fs.fin F3 (fun x hx => by simp at hx; omega) k⟩
  refine bodyPost_ret (v := .agg (insC ((n1 : Int), n3, (0 : Int), es, es, es, es)).toArray) (by simp [results, Tryz.results147, go_sem, insC, es, y3_0, y3_1, y3_2, y3_3, y3_4, y3_5, y3_6, u3_0, u3_1, u3_2, u3_3, u3_4, u3_5, u3_6]) rfl ⟨_, ((n1 : Int), n3, (0 : Int), es, es, es, es), s3, rfl, rfl, ?_, took_pb HT1.out ?_, ?_, ?_⟩
  ·refine ⟨⟨?_, ?_, ?_, ?_⟩, ?_, ?_⟩ <;> simp only [es] <;> first | omega | decide
  ·rw [← show pUse C.L n1 = pUse C.L n1 from rfl]; have hq := HP.out; first | (rw [show pUse C.L n1 = p from HQ.out, hq]; exact took_map HT3.out) | skip
  ·exact (hkk _ (Kpt.snoc (Kpt.snoc (Kpt.snoc (Kpt.snoc (Kpt.snoc (Kpt.snoc (Kpt.snoc (Kpt.snoc (Kpt.refl _ _) (by simp)) (by simp)) (by simp)) (by simp)) (by simp)) (by simp)) (by simp)) (by simp))).1
  ·exact (hkk _ (Kpt.snoc (Kpt.snoc (Kpt.snoc (Kpt.snoc (Kpt.snoc (Kpt.snoc (Kpt.snoc (Kpt.snoc (Kpt.refl _ _) (by simp)) (by simp)) (by simp)) (by simp)) (by simp)) (by simp)) (by simp)) (by simp))).2
 ·have HP := Lib.hid (hp.trans (pUse_at (u := 2) hU))
  clear hp
  go_wp2_with fail
  refine (uses_any (n1 : Int) _).mono ?_
  rintro r w2 ⟨rfl, hw⟩
  rw [hw] at hs2 hx2 hy2 F2 hbB
  obtain ⟨q1_2, q2_2, c0_2, c1_2, f2_2⟩ := hs2.cells
  obtain ⟨hl2, hcs2, hfz2⟩ := boxN hx2
  have y2_0 := hcs2 0 _ rfl
  have y2_1 := hcs2 1 _ rfl
  have y2_2 := hcs2 2 _ rfl
  have y2_3 := hcs2 3 _ rfl
  have y2_4 := hcs2 4 _ rfl
  have y2_5 := hcs2 5 _ rfl
  have y2_6 := hcs2 6 _ rfl
  have z2_0 := hfz2 0
  have z2_1 := hfz2 1
  have z2_2 := hfz2 2
  have z2_3 := hfz2 3
  have z2_4 := hfz2 4
  have z2_5 := hfz2 5
  have z2_6 := hfz2 6
  simp only [Nat.zero_add] at y2_0 y2_1 y2_2 y2_3 y2_4 y2_5 y2_6
  obtain ⟨yl2, yc2, yf2⟩ := boxN hy2
  have u2_0 := yc2 0 _ rfl
  have u2_1 := yc2 1 _ rfl
  have u2_2 := yc2 2 _ rfl
  have u2_3 := yc2 3 _ rfl
  have u2_4 := yc2 4 _ rfl
  have u2_5 := yc2 5 _ rfl
  have u2_6 := yc2 6 _ rfl
  have v2_0 := yf2 0
  have v2_1 := yf2 1
  have v2_2 := yf2 2
  have v2_3 := yf2 3
  have v2_4 := yf2 4
  have v2_5 := yf2 5
  have v2_6 := yf2 6
  simp only [Nat.zero_add] at u2_0 u2_1 u2_2 u2_3 u2_4 u2_5 u2_6
  clear hw b0 y1_0 y1_1 y1_2 y1_3 y1_4 y1_5 y1_6 z1_0 z1_1 z1_2 z1_3 z1_4 z1_5 z1_6 hcs1 hfz1
  rw [hU]
  go_wp2_with fail
  refine (text_s C s1 _ hs2).mono ?_
  rintro r w3 ⟨n3, s3, rfl, hn3, t3, hs3, hf3⟩
  have hx3 := hf3.box hs2 ht hx2
  have HT3 := Lib.hid t3
  have F3 := F2.trans hf3
  clear t3
  have hy3 := hf3.box hs2 hty hy2
  obtain ⟨q1_3, q2_3, c0_3, c1_3, f2_3⟩ := hs3.cells
  obtain ⟨hl3, hcs3, hfz3⟩ := boxN hx3
  have y3_0 := hcs3 0 _ rfl
  have y3_1 := hcs3 1 _ rfl
  have y3_2 := hcs3 2 _ rfl
  have y3_3 := hcs3 3 _ rfl
  have y3_4 := hcs3 4 _ rfl
  have y3_5 := hcs3 5 _ rfl
  have y3_6 := hcs3 6 _ rfl
  have z3_0 := hfz3 0
  have z3_1 := hfz3 1
  have z3_2 := hfz3 2
  have z3_3 := hfz3 3
  have z3_4 := hfz3 4
  have z3_5 := hfz3 5
  have z3_6 := hfz3 6
  simp only [Nat.zero_add] at y3_0 y3_1 y3_2 y3_3 y3_4 y3_5 y3_6
  obtain ⟨yl3, yc3, yf3⟩ := boxN hy3
  have u3_0 := yc3 0 _ rfl
  have u3_1 := yc3 1 _ rfl
  have u3_2 := yc3 2 _ rfl
  have u3_3 := yc3 3 _ rfl
  have u3_4 := yc3 4 _ rfl
  have u3_5 := yc3 5 _ rfl
  have u3_6 := yc3 6 _ rfl
  have v3_0 := yf3 0
  have v3_1 := yf3 1
  have v3_2 := yf3 2
  have v3_3 := yf3 3
  have v3_4 := yf3 4
  have v3_5 := yf3 5
  have v3_6 := yf3 6
  simp only [Nat.zero_add] at u3_0 u3_1 u3_2 u3_3 u3_4 u3_5 u3_6
  go_wp2_with fail
  have hkk : ∀ W, Kpt [w.heap.size, w1.heap.size] w3 W → Src W C s3 ∧ Fs C w W := fun W k => ⟨hs3.kpt k (fun x hx => by simp; omega), Fs.fin F3 (fun x hx => by simp at hx; omega) k⟩
  refine bodyPost_ret (v := .agg (insC ((n1 : Int), (0 : Int), (0 : Int), n3, es, es, es)).toArray) (by simp [results, Tryz.results147, go_sem, insC, es, y3_0, y3_1, y3_2, y3_3, y3_4, y3_5, y3_6, u3_0, u3_1, u3_2, u3_3, u3_4, u3_5, u3_6]) rfl ⟨_, ((n1 : Int), (0 : Int), (0 : Int), n3, es, es, es), s3, rfl, rfl, ?_, took_pb HT1.out ?_, ?_, ?_⟩
  ·refine ⟨⟨?_, ?_, ?_, ?_⟩, ?_, ?_⟩ <;> simp only [es] <;> first | omega | decide
  ·rw [← show pUse C.L n1 = pUse C.L n1 from rfl]; have hq := HP.out; first | (rw [show pUse C.L n1 = p from HQ.out, hq]; exact took_map HT3.out) | skip
  ·exact (hkk _ (Kpt.snoc (Kpt.snoc (Kpt.snoc (Kpt.snoc (Kpt.snoc (Kpt.snoc (Kpt.snoc (Kpt.snoc (Kpt.refl _ _) (by simp)) (by simp)) (by simp)) (by simp)) (by simp)) (by simp)) (by simp)) (by simp))).1
  ·exact (hkk _ (Kpt.snoc (Kpt.snoc (Kpt.snoc (Kpt.snoc (Kpt.snoc (Kpt.snoc (Kpt.snoc (Kpt.snoc (Kpt.refl _ _) (by simp)) (by simp)) (by simp)) (by simp)) (by simp)) (by simp)) (by simp)) (by simp))).2
 ·have HP := Lib.hid (hp.trans (pUse_at (u := 3) hU))
  clear hp
  go_wp2_with fail
  refine (uses_any (n1 : Int) _).mono ?_
  rintro r w2 ⟨rfl, hw⟩
  rw [hw] at hs2 hx2 hy2 F2 hbB
  obtain ⟨q1_2, q2_2, c0_2, c1_2, f2_2⟩ := hs2.cells
  obtain ⟨hl2, hcs2, hfz2⟩ := boxN hx2
  have y2_0 := hcs2 0 _ rfl
  have y2_1 := hcs2 1 _ rfl
  have y2_2 := hcs2 2 _ rfl
  have y2_3 := hcs2 3 _ rfl
  have y2_4 := hcs2 4 _ rfl
  have y2_5 := hcs2 5 _ rfl
  have y2_6 := hcs2 6 _ rfl
  have z2_0 := hfz2 0
  have z2_1 := hfz2 1
  have z2_2 := hfz2 2
  have z2_3 := hfz2 3
  have z2_4 := hfz2 4
  have z2_5 := hfz2 5
  have z2_6 := hfz2 6
  simp only [Nat.zero_add] at y2_0 y2_1 y2_2 y2_3 y2_4 y2_5 y2_6
  obtain ⟨yl2, yc2, yf2⟩ := boxN hy2
  have u2_0 := yc2 0 _ rfl
  have u2_1 := yc2 1 _ rfl
  have u2_2 := yc2 2 _ rfl
  have u2_3 := yc2 3 _ rfl
  have u2_4 := yc2 4 _ rfl
  have u2_5 := yc2 5 _ rfl
  have u2_6 := yc2 6 _ rfl
  have v2_0 := yf2 0
  have v2_1 := yf2 1
  have v2_2 := yf2 2
  have v2_3 := yf2 3
  have v2_4 := yf2 4
  have v2_5 := yf2 5
  have v2_6 := yf2 6
  simp only [Nat.zero_add] at u2_0 u2_1 u2_2 u2_3 u2_4 u2_5 u2_6
  clear hw b0 y1_0 y1_1 y1_2 y1_3 y1_4 y1_5 y1_6 z1_0 z1_1 z1_2 z1_3 z1_4 z1_5 z1_6 hcs1 hfz1
  rw [hU]
  go_wp2_with fail
  refine (num_s C s1 2000 _ _ hs2 (by rfl) (by decide)).mono ?_
  rintro r w3 ⟨n3, s3, rfl, hn3, t3, hs3, hf3⟩
  have hx3 := hf3.box hs2 ht hx2
  have HT3 := Lib.hid t3
  have F3 := F2.trans hf3
  clear t3
  have hy3 := hf3.box hs2 hty hy2
  obtain ⟨q1_3, q2_3, c0_3, c1_3, f2_3⟩ := hs3.cells
  obtain ⟨hl3, hcs3, hfz3⟩ := boxN hx3
  have y3_0 := hcs3 0 _ rfl
  have y3_1 := hcs3 1 _ rfl
  have y3_2 := hcs3 2 _ rfl
  have y3_3 := hcs3 3 _ rfl
  have y3_4 := hcs3 4 _ rfl
  have y3_5 := hcs3 5 _ rfl
  have y3_6 := hcs3 6 _ rfl
  have z3_0 := hfz3 0
  have z3_1 := hfz3 1
  have z3_2 := hfz3 2
  have z3_3 := hfz3 3
  have z3_4 := hfz3 4
  have z3_5 := hfz3 5
  have z3_6 := hfz3 6
  simp only [Nat.zero_add] at y3_0 y3_1 y3_2 y3_3 y3_4 y3_5 y3_6
  obtain ⟨yl3, yc3, yf3⟩ := boxN hy3
  have u3_0 := yc3 0 _ rfl
  have u3_1 := yc3 1 _ rfl
  have u3_2 := yc3 2 _ rfl
  have u3_3 := yc3 3 _ rfl
  have u3_4 := yc3 4 _ rfl
  have u3_5 := yc3 5 _ rfl
  have u3_6 := yc3 6 _ rfl
  have v3_0 := yf3 0
  have v3_1 := yf3 1
  have v3_2 := yf3 2
  have v3_3 := yf3 3
  have v3_4 := yf3 4
  have v3_5 := yf3 5
  have v3_6 := yf3 6
  simp only [Nat.zero_add] at u3_0 u3_1 u3_2 u3_3 u3_4 u3_5 u3_6
  go_wp2_with fail
  have hkk : ∀ W, Kpt [w.heap.size, w1.heap.size] w3 W → Src W C s3 ∧ Fs C w W := fun W k => ⟨hs3.kpt k (fun x hx => by simp; omega), Fs.fin F3 (fun x hx => by simp at hx; omega) k⟩
  refine bodyPost_ret (v := .agg (insC ((n1 : Int), (0 : Int), (n3 : Int), es, es, es, es)).toArray) (by simp [results, Tryz.results147, go_sem, insC, es, y3_0, y3_1, y3_2, y3_3, y3_4, y3_5, y3_6, u3_0, u3_1, u3_2, u3_3, u3_4, u3_5, u3_6]) rfl ⟨_, ((n1 : Int), (0 : Int), (n3 : Int), es, es, es, es), s3, rfl, rfl, ?_, took_pb HT1.out ?_, ?_, ?_⟩
  ·refine ⟨⟨?_, ?_, ?_, ?_⟩, ?_, ?_⟩ <;> simp only [es] <;> first | omega | decide
  ·rw [← show pUse C.L n1 = pUse C.L n1 from rfl]; have hq := HP.out; first | (rw [show pUse C.L n1 = p from HQ.out, hq]; exact took_map HT3.out) | skip
  ·exact (hkk _ (Kpt.snoc (Kpt.snoc (Kpt.snoc (Kpt.snoc (Kpt.snoc (Kpt.snoc (Kpt.snoc (Kpt.snoc (Kpt.refl _ _) (by simp)) (by simp)) (by simp)) (by simp)) (by simp)) (by simp)) (by simp)) (by simp))).1
  ·exact (hkk _ (Kpt.snoc (Kpt.snoc (Kpt.snoc (Kpt.snoc (Kpt.snoc (Kpt.snoc (Kpt.snoc (Kpt.snoc (Kpt.refl _ _) (by simp)) (by simp)) (by simp)) (by simp)) (by simp)) (by simp)) (by simp)) (by simp))).2
 ·have HP := Lib.hid (hp.trans (pUse_at (u := 4) hU))
  clear hp
  go_wp2_with fail
  refine (uses_any (n1 : Int) _).mono ?_
  rintro r w2 ⟨rfl, hw⟩
  rw [hw] at hs2 hx2 hy2 F2 hbB
  obtain ⟨q1_2, q2_2, c0_2, c1_2, f2_2⟩ := hs2.cells
  obtain ⟨hl2, hcs2, hfz2⟩ := boxN hx2
  have y2_0 := hcs2 0 _ rfl
  have y2_1 := hcs2 1 _ rfl
  have y2_2 := hcs2 2 _ rfl
  have y2_3 := hcs2 3 _ rfl
  have y2_4 := hcs2 4 _ rfl
  have y2_5 := hcs2 5 _ rfl
  have y2_6 := hcs2 6 _ rfl
  have z2_0 := hfz2 0
  have z2_1 := hfz2 1
  have z2_2 := hfz2 2
  have z2_3 := hfz2 3
  have z2_4 := hfz2 4
  have z2_5 := hfz2 5
  have z2_6 := hfz2 6
  simp only [Nat.zero_add] at y2_0 y2_1 y2_2 y2_3 y2_4 y2_5 y2_6
  obtain ⟨yl2, yc2, yf2⟩ := boxN hy2
  have u2_0 := yc2 0 _ rfl
  have u2_1 := yc2 1 _ rfl
  have u2_2 := yc2 2 _ rfl
  have u2_3 := yc2 3 _ rfl
  have u2_4 := yc2 4 _ rfl
  have u2_5 := yc2 5 _ rfl
  have u2_6 := yc2 6 _ rfl
  have v2_0 := yf2 0
  have v2_1 := yf2 1
  have v2_2 := yf2 2
  have v2_3 := yf2 3
  have v2_4 := yf2 4
  have v2_5 := yf2 5
  have v2_6 := yf2 6
  simp only [Nat.zero_add] at u2_0 u2_1 u2_2 u2_3 u2_4 u2_5 u2_6
  clear hw b0 y1_0 y1_1 y1_2 y1_3 y1_4 y1_5 y1_6 z1_0 z1_1 z1_2 z1_3 z1_4 z1_5 z1_6 hcs1 hfz1
  rw [hU]
  go_wp2_with fail
  refine (text_s C s1 _ hs2).mono ?_
  rintro r w3 ⟨n3, s3, rfl, hn3, t3, hs3, hf3⟩
  have hx3 := hf3.box hs2 ht hx2
  have HT3 := Lib.hid t3
  have F3 := F2.trans hf3
  clear t3
  have hy3 := hf3.box hs2 hty hy2
  obtain ⟨q1_3, q2_3, c0_3, c1_3, f2_3⟩ := hs3.cells
  obtain ⟨hl3, hcs3, hfz3⟩ := boxN hx3
  have y3_0 := hcs3 0 _ rfl
  have y3_1 := hcs3 1 _ rfl
  have y3_2 := hcs3 2 _ rfl
  have y3_3 := hcs3 3 _ rfl
  have y3_4 := hcs3 4 _ rfl
  have y3_5 := hcs3 5 _ rfl
  have y3_6 := hcs3 6 _ rfl
  have z3_0 := hfz3 0
  have z3_1 := hfz3 1
  have z3_2 := hfz3 2
  have z3_3 := hfz3 3
  have z3_4 := hfz3 4
  have z3_5 := hfz3 5
  have z3_6 := hfz3 6
  simp only [Nat.zero_add] at y3_0 y3_1 y3_2 y3_3 y3_4 y3_5 y3_6
  obtain ⟨yl3, yc3, yf3⟩ := boxN hy3
  have u3_0 := yc3 0 _ rfl
  have u3_1 := yc3 1 _ rfl
  have u3_2 := yc3 2 _ rfl
  have u3_3 := yc3 3 _ rfl
  have u3_4 := yc3 4 _ rfl
  have u3_5 := yc3 5 _ rfl
  have u3_6 := yc3 6 _ rfl
  have v3_0 := yf3 0
  have v3_1 := yf3 1
  have v3_2 := yf3 2
  have v3_3 := yf3 3
  have v3_4 := yf3 4
  have v3_5 := yf3 5
  have v3_6 := yf3 6
  simp only [Nat.zero_add] at u3_0 u3_1 u3_2 u3_3 u3_4 u3_5 u3_6
  go_wp2_with fail
  refine (text_s C s3 _ hs3).mono ?_
  rintro r w4 ⟨n4, s4, rfl, hn4, t4, hs4, hf4⟩
  have hx4 := hf4.box hs3 ht hx3
  have HT4 := Lib.hid t4
  have F4 := F3.trans hf4
  clear t4
  have hy4 := hf4.box hs3 hty hy3
  obtain ⟨q1_4, q2_4, c0_4, c1_4, f2_4⟩ := hs4.cells
  obtain ⟨hl4, hcs4, hfz4⟩ := boxN hx4
  have y4_0 := hcs4 0 _ rfl
  have y4_1 := hcs4 1 _ rfl
  have y4_2 := hcs4 2 _ rfl
  have y4_3 := hcs4 3 _ rfl
  have y4_4 := hcs4 4 _ rfl
  have y4_5 := hcs4 5 _ rfl
  have y4_6 := hcs4 6 _ rfl
  have z4_0 := hfz4 0
  have z4_1 := hfz4 1
  have z4_2 := hfz4 2
  have z4_3 := hfz4 3
  have z4_4 := hfz4 4
  have z4_5 := hfz4 5
  have z4_6 := hfz4 6
  simp only [Nat.zero_add] at y4_0 y4_1 y4_2 y4_3 y4_4 y4_5 y4_6
  obtain ⟨yl4, yc4, yf4⟩ := boxN hy4
  have u4_0 := yc4 0 _ rfl
  have u4_1 := yc4 1 _ rfl
  have u4_2 := yc4 2 _ rfl
  have u4_3 := yc4 3 _ rfl
  have u4_4 := yc4 4 _ rfl
  have u4_5 := yc4 5 _ rfl
  have u4_6 := yc4 6 _ rfl
  have v4_0 := yf4 0
  have v4_1 := yf4 1
  have v4_2 := yf4 2
  have v4_3 := yf4 3
  have v4_4 := yf4 4
  have v4_5 := yf4 5
  have v4_6 := yf4 6
  simp only [Nat.zero_add] at u4_0 u4_1 u4_2 u4_3 u4_4 u4_5 u4_6
  go_wp2_with fail
  have hkk : ∀ W, Kpt [w.heap.size, w1.heap.size] w4 W → Src W C s4 ∧ Fs C w W := fun W k => ⟨hs4.kpt k (fun x hx => by simp; omega), Fs.fin F4 (fun x hx => by simp at hx; omega) k⟩
  refine bodyPost_ret (v := .agg (insC ((n1 : Int), (0 : Int), (0 : Int), es, n3, n4, es)).toArray) (by simp [results, Tryz.results147, go_sem, insC, es, y4_0, y4_1, y4_2, y4_3, y4_4, y4_5, y4_6, u4_0, u4_1, u4_2, u4_3, u4_4, u4_5, u4_6]) rfl ⟨_, ((n1 : Int), (0 : Int), (0 : Int), es, n3, n4, es), s4, rfl, rfl, ?_, took_pb HT1.out ?_, ?_, ?_⟩
  ·refine ⟨⟨?_, ?_, ?_, ?_⟩, ?_, ?_⟩ <;> simp only [es] <;> first | omega | decide
  ·rw [← show pUse C.L n1 = pUse C.L n1 from rfl]; have hq := HP.out; first | (rw [show pUse C.L n1 = p from HQ.out, hq]; exact took_pb HT3.out (took_map HT4.out)) | skip
  ·exact (hkk _ (Kpt.snoc (Kpt.snoc (Kpt.snoc (Kpt.snoc (Kpt.snoc (Kpt.snoc (Kpt.snoc (Kpt.snoc (Kpt.snoc (Kpt.refl _ _) (by simp)) (by simp)) (by simp)) (by simp)) (by simp)) (by simp)) (by simp)) (by simp)) (by simp))).1
  ·exact (hkk _ (Kpt.snoc (Kpt.snoc (Kpt.snoc (Kpt.snoc (Kpt.snoc (Kpt.snoc (Kpt.snoc (Kpt.snoc (Kpt.snoc (Kpt.refl _ _) (by simp)) (by simp)) (by simp)) (by simp)) (by simp)) (by simp)) (by simp)) (by simp)) (by simp))).2
 ·have HP := Lib.hid (hp.trans (pUse_at (u := 5) hU))
  clear hp
  go_wp2_with fail
  refine (uses_any (n1 : Int) _).mono ?_
  rintro r w2 ⟨rfl, hw⟩
  rw [hw] at hs2 hx2 hy2 F2 hbB
  obtain ⟨q1_2, q2_2, c0_2, c1_2, f2_2⟩ := hs2.cells
  obtain ⟨hl2, hcs2, hfz2⟩ := boxN hx2
  have y2_0 := hcs2 0 _ rfl
  have y2_1 := hcs2 1 _ rfl
  have y2_2 := hcs2 2 _ rfl
  have y2_3 := hcs2 3 _ rfl
  have y2_4 := hcs2 4 _ rfl
  have y2_5 := hcs2 5 _ rfl
  have y2_6 := hcs2 6 _ rfl
  have z2_0 := hfz2 0
  have z2_1 := hfz2 1
  have z2_2 := hfz2 2
  have z2_3 := hfz2 3
  have z2_4 := hfz2 4
  have z2_5 := hfz2 5
  have z2_6 := hfz2 6
  simp only [Nat.zero_add] at y2_0 y2_1 y2_2 y2_3 y2_4 y2_5 y2_6
  obtain ⟨yl2, yc2, yf2⟩ := boxN hy2
  have u2_0 := yc2 0 _ rfl
  have u2_1 := yc2 1 _ rfl
  have u2_2 := yc2 2 _ rfl
  have u2_3 := yc2 3 _ rfl
  have u2_4 := yc2 4 _ rfl
  have u2_5 := yc2 5 _ rfl
  have u2_6 := yc2 6 _ rfl
  have v2_0 := yf2 0
  have v2_1 := yf2 1
  have v2_2 := yf2 2
  have v2_3 := yf2 3
  have v2_4 := yf2 4
  have v2_5 := yf2 5
  have v2_6 := yf2 6
  simp only [Nat.zero_add] at u2_0 u2_1 u2_2 u2_3 u2_4 u2_5 u2_6
  clear hw b0 y1_0 y1_1 y1_2 y1_3 y1_4 y1_5 y1_6 z1_0 z1_1 z1_2 z1_3 z1_4 z1_5 z1_6 hcs1 hfz1
  rw [hU]
  go_wp2_with fail
  refine (text_s C s1 _ hs2).mono ?_
  rintro r w3 ⟨n3, s3, rfl, hn3, t3, hs3, hf3⟩
  have hx3 := hf3.box hs2 ht hx2
  have HT3 := Lib.hid t3
  have F3 := F2.trans hf3
  clear t3
  have hy3 := hf3.box hs2 hty hy2
  obtain ⟨q1_3, q2_3, c0_3, c1_3, f2_3⟩ := hs3.cells
  obtain ⟨hl3, hcs3, hfz3⟩ := boxN hx3
  have y3_0 := hcs3 0 _ rfl
  have y3_1 := hcs3 1 _ rfl
  have y3_2 := hcs3 2 _ rfl
  have y3_3 := hcs3 3 _ rfl
  have y3_4 := hcs3 4 _ rfl
  have y3_5 := hcs3 5 _ rfl
  have y3_6 := hcs3 6 _ rfl
  have z3_0 := hfz3 0
  have z3_1 := hfz3 1
  have z3_2 := hfz3 2
  have z3_3 := hfz3 3
  have z3_4 := hfz3 4
  have z3_5 := hfz3 5
  have z3_6 := hfz3 6
  simp only [Nat.zero_add] at y3_0 y3_1 y3_2 y3_3 y3_4 y3_5 y3_6
  obtain ⟨yl3, yc3, yf3⟩ := boxN hy3
  have u3_0 := yc3 0 _ rfl
  have u3_1 := yc3 1 _ rfl
  have u3_2 := yc3 2 _ rfl
  have u3_3 := yc3 3 _ rfl
  have u3_4 := yc3 4 _ rfl
  have u3_5 := yc3 5 _ rfl
  have u3_6 := yc3 6 _ rfl
  have v3_0 := yf3 0
  have v3_1 := yf3 1
  have v3_2 := yf3 2
  have v3_3 := yf3 3
  have v3_4 := yf3 4
  have v3_5 := yf3 5
  have v3_6 := yf3 6
  simp only [Nat.zero_add] at u3_0 u3_1 u3_2 u3_3 u3_4 u3_5 u3_6
  go_wp2_with fail
  refine (text_s C s3 _ hs3).mono ?_
  rintro r w4 ⟨n4, s4, rfl, hn4, t4, hs4, hf4⟩
  have hx4 := hf4.box hs3 ht hx3
  have HT4 := Lib.hid t4
  have F4 := F3.trans hf4
  clear t4
  have hy4 := hf4.box hs3 hty hy3
  obtain ⟨q1_4, q2_4, c0_4, c1_4, f2_4⟩ := hs4.cells
  obtain ⟨hl4, hcs4, hfz4⟩ := boxN hx4
  have y4_0 := hcs4 0 _ rfl
  have y4_1 := hcs4 1 _ rfl
  have y4_2 := hcs4 2 _ rfl
  have y4_3 := hcs4 3 _ rfl
  have y4_4 := hcs4 4 _ rfl
  have y4_5 := hcs4 5 _ rfl
  have y4_6 := hcs4 6 _ rfl
  have z4_0 := hfz4 0
  have z4_1 := hfz4 1
  have z4_2 := hfz4 2
  have z4_3 := hfz4 3
  have z4_4 := hfz4 4
  have z4_5 := hfz4 5
  have z4_6 := hfz4 6
  simp only [Nat.zero_add] at y4_0 y4_1 y4_2 y4_3 y4_4 y4_5 y4_6
  obtain ⟨yl4, yc4, yf4⟩ := boxN hy4
  have u4_0 := yc4 0 _ rfl
  have u4_1 := yc4 1 _ rfl
  have u4_2 := yc4 2 _ rfl
  have u4_3 := yc4 3 _ rfl
  have u4_4 := yc4 4 _ rfl
  have u4_5 := yc4 5 _ rfl
  have u4_6 := yc4 6 _ rfl
  have v4_0 := yf4 0
  have v4_1 := yf4 1
  have v4_2 := yf4 2
  have v4_3 := yf4 3
  have v4_4 := yf4 4
  have v4_5 := yf4 5
  have v4_6 := yf4 6
  simp only [Nat.zero_add] at u4_0 u4_1 u4_2 u4_3 u4_4 u4_5 u4_6
  go_wp2_with fail
  refine (text_s C s4 _ hs4).mono ?_
  rintro r w5 ⟨n5, s5, rfl, hn5, t5, hs5, hf5⟩
  have hx5 := hf5.box hs4 ht hx4
  have HT5 := Lib.hid t5
  have F5 := F4.trans hf5
  clear t5
  have hy5 := hf5.box hs4 hty hy4
  obtain ⟨q1_5, q2_5, c0_5, c1_5, f2_5⟩ := hs5.cells
  obtain ⟨hl5, hcs5, hfz5⟩ := boxN hx5
  have y5_0 := hcs5 0 _ rfl
  have y5_1 := hcs5 1 _ rfl
  have y5_2 := hcs5 2 _ rfl
  have y5_3 := hcs5 3 _ rfl
  have y5_4 := hcs5 4 _ rfl
  have y5_5 := hcs5 5 _ rfl
  have y5_6 := hcs5 6 _ rfl
  have z5_0 := hfz5 0
  have z5_1 := hfz5 1
  have z5_2 := hfz5 2
  have z5_3 := hfz5 3
  have z5_4 := hfz5 4
  have z5_5 := hfz5 5
  have z5_6 := hfz5 6
  simp only [Nat.zero_add] at y5_0 y5_1 y5_2 y5_3 y5_4 y5_5 y5_6
  obtain ⟨yl5, yc5, yf5⟩ := boxN hy5
  have u5_0 := yc5 0 _ rfl
  have u5_1 := yc5 1 _ rfl
  have u5_2 := yc5 2 _ rfl
  have u5_3 := yc5 3 _ rfl
  have u5_4 := yc5 4 _ rfl
  have u5_5 := yc5 5 _ rfl
  have u5_6 := yc5 6 _ rfl
  have v5_0 := yf5 0
  have v5_1 := yf5 1
  have v5_2 := yf5 2
  have v5_3 := yf5 3
  have v5_4 := yf5 4
  have v5_5 := yf5 5
  have v5_6 := yf5 6
  simp only [Nat.zero_add] at u5_0 u5_1 u5_2 u5_3 u5_4 u5_5 u5_6
  go_wp2_with fail
  have hkk : ∀ W, Kpt [w.heap.size, w1.heap.size] w5 W → Src W C s5 ∧ Fs C w W := fun W k => ⟨hs5.kpt k (fun x hx => by simp; omega), Fs.fin F5 (fun x hx => by simp at hx; omega) k⟩
  refine bodyPost_ret (v := .agg (insC ((n1 : Int), (0 : Int), (0 : Int), es, n3, n4, n5)).toArray) (by simp [results, Tryz.results147, go_sem, insC, es, y5_0, y5_1, y5_2, y5_3, y5_4, y5_5, y5_6, u5_0, u5_1, u5_2, u5_3, u5_4, u5_5, u5_6]) rfl ⟨_, ((n1 : Int), (0 : Int), (0 : Int), es, n3, n4, n5), s5, rfl, rfl, ?_, took_pb HT1.out ?_, ?_, ?_⟩
  ·refine ⟨⟨?_, ?_, ?_, ?_⟩, ?_, ?_⟩ <;> simp only [es] <;> first | omega | decide
  ·rw [← show pUse C.L n1 = pUse C.L n1 from rfl]; have hq := HP.out; first | (rw [show pUse C.L n1 = p from HQ.out, hq]; exact took_pb HT3.out (took_pb HT4.out (took_map HT5.out))) | skip
  ·exact (hkk _ (Kpt.snoc (Kpt.snoc (Kpt.snoc (Kpt.snoc (Kpt.snoc (Kpt.snoc (Kpt.snoc (Kpt.snoc (Kpt.snoc (Kpt.snoc (Kpt.refl _ _) (by simp)) (by simp)) (by simp)) (by simp)) (by simp)) (by simp)) (by simp)) (by simp)) (by simp)) (by simp))).1
  ·exact (hkk _ (Kpt.snoc (Kpt.snoc (Kpt.snoc (Kpt.snoc (Kpt.snoc (Kpt.snoc (Kpt.snoc (Kpt.snoc (Kpt.snoc (Kpt.snoc (Kpt.refl _ _) (by simp)) (by simp)) (by simp)) (by simp)) (by simp)) (by simp)) (by simp)) (by simp)) (by simp)) (by simp))).2
 ·have HP := Lib.hid (hp.trans (pUse_at (u := 6) hU))
  clear hp
  go_wp2_with fail
  refine (uses_any (n1 : Int) _).mono ?_
  rintro r w2 ⟨rfl, hw⟩
  rw [hw] at hs2 hx2 hy2 F2 hbB
  obtain ⟨q1_2, q2_2, c0_2, c1_2, f2_2⟩ := hs2.cells
  obtain ⟨hl2, hcs2, hfz2⟩ := boxN hx2
  have y2_0 := hcs2 0 _ rfl
  have y2_1 := hcs2 1 _ rfl
  have y2_2 := hcs2 2 _ rfl
  have y2_3 := hcs2 3 _ rfl
  have y2_4 := hcs2 4 _ rfl
  have y2_5 := hcs2 5 _ rfl
  have y2_6 := hcs2 6 _ rfl
  have z2_0 := hfz2 0
  have z2_1 := hfz2 1
  have z2_2 := hfz2 2
  have z2_3 := hfz2 3
  have z2_4 := hfz2 4
  have z2_5 := hfz2 5
  have z2_6 := hfz2 6
  simp only [Nat.zero_add] at y2_0 y2_1 y2_2 y2_3 y2_4 y2_5 y2_6
  obtain ⟨yl2, yc2, yf2⟩ := boxN hy2
  have u2_0 := yc2 0 _ rfl
  have u2_1 := yc2 1 _ rfl
  have u2_2 := yc2 2 _ rfl
  have u2_3 := yc2 3 _ rfl
  have u2_4 := yc2 4 _ rfl
  have u2_5 := yc2 5 _ rfl
  have u2_6 := yc2 6 _ rfl
  have v2_0 := yf2 0
  have v2_1 := yf2 1
  have v2_2 := yf2 2
  have v2_3 := yf2 3
  have v2_4 := yf2 4
  have v2_5 := yf2 5
  have v2_6 := yf2 6
  simp only [Nat.zero_add] at u2_0 u2_1 u2_2 u2_3 u2_4 u2_5 u2_6
  clear hw b0 y1_0 y1_1 y1_2 y1_3 y1_4 y1_5 y1_6 z1_0 z1_1 z1_2 z1_3 z1_4 z1_5 z1_6 hcs1 hfz1
  rw [hU]
  go_wp2_with fail
  refine (text_s C s1 _ hs2).mono ?_
  rintro r w3 ⟨n3, s3, rfl, hn3, t3, hs3, hf3⟩
  have hx3 := hf3.box hs2 ht hx2
  have HT3 := Lib.hid t3
  have F3 := F2.trans hf3
  clear t3
  have hy3 := hf3.box hs2 hty hy2
  obtain ⟨q1_3, q2_3, c0_3, c1_3, f2_3⟩ := hs3.cells
  obtain ⟨hl3, hcs3, hfz3⟩ := boxN hx3
  have y3_0 := hcs3 0 _ rfl
  have y3_1 := hcs3 1 _ rfl
  have y3_2 := hcs3 2 _ rfl
  have y3_3 := hcs3 3 _ rfl
  have y3_4 := hcs3 4 _ rfl
  have y3_5 := hcs3 5 _ rfl
  have y3_6 := hcs3 6 _ rfl
  have z3_0 := hfz3 0
  have z3_1 := hfz3 1
  have z3_2 := hfz3 2
  have z3_3 := hfz3 3
  have z3_4 := hfz3 4
  have z3_5 := hfz3 5
  have z3_6 := hfz3 6
  simp only [Nat.zero_add] at y3_0 y3_1 y3_2 y3_3 y3_4 y3_5 y3_6
  obtain ⟨yl3, yc3, yf3⟩ := boxN hy3
  have u3_0 := yc3 0 _ rfl
  have u3_1 := yc3 1 _ rfl
  have u3_2 := yc3 2 _ rfl
  have u3_3 := yc3 3 _ rfl
  have u3_4 := yc3 4 _ rfl
  have u3_5 := yc3 5 _ rfl
  have u3_6 := yc3 6 _ rfl
  have v3_0 := yf3 0
  have v3_1 := yf3 1
  have v3_2 := yf3 2
  have v3_3 := yf3 3
  have v3_4 := yf3 4
  have v3_5 := yf3 5
  have v3_6 := yf3 6
  simp only [Nat.zero_add] at u3_0 u3_1 u3_2 u3_3 u3_4 u3_5 u3_6
  go_wp2_with fail
  have hkk : ∀ W, Kpt [w.heap.size, w1.heap.size] w3 W → Src W C s3 ∧ Fs C w W := fun W k => ⟨hs3.kpt k (fun x hx => by simp; omega), Fs.fin F3 (fun x hx => by simp at hx; omega) k⟩
  refine bodyPost_ret (v := .agg (insC ((n1 : Int), (0 : Int), (0 : Int), es, n3, es, es)).toArray) (by simp [results, Tryz.results147, go_sem, insC, es, y3_0, y3_1, y3_2, y3_3, y3_4, y3_5, y3_6, u3_0, u3_1, u3_2, u3_3, u3_4, u3_5, u3_6]) rfl ⟨_, ((n1 : Int), (0 : Int), (0 : Int), es, n3, es, es), s3, rfl, rfl, ?_, took_pb HT1.out ?_, ?_, ?_⟩
  ·refine ⟨⟨?_, ?_, ?_, ?_⟩, ?_, ?_⟩ <;> simp only [es] <;> first | omega | decide
  ·rw [← show pUse C.L n1 = pUse C.L n1 from rfl]; have hq := HP.out; first | (rw [show pUse C.L n1 = p from HQ.out, hq]; exact took_map HT3.out) | skip
  ·exact (hkk _ (Kpt.snoc (Kpt.snoc (Kpt.snoc (Kpt.snoc (Kpt.snoc (Kpt.snoc (Kpt.snoc (Kpt.snoc (Kpt.refl _ _) (by simp)) (by simp)) (by simp)) (by simp)) (by simp)) (by simp)) (by simp)) (by simp))).1
  ·exact (hkk _ (Kpt.snoc (Kpt.snoc (Kpt.snoc (Kpt.snoc (Kpt.snoc (Kpt.snoc (Kpt.snoc (Kpt.snoc (Kpt.refl _ _) (by simp)) (by simp)) (by simp)) (by simp)) (by simp)) (by simp)) (by simp)) (by simp))).2
end Go.Proofs.YtijnimjmimeefaaGreat.A
