/- Texts that the proof is made of, joined. No condition. -/
import Derived.Test.YtijnimjmimeefaaGreatSC5
import Derived.Test.YtijnimjmimeefaaGreatSC12
import Derived.Test.YtijnimjmimeefaaGreatSCH
set_option linter.unusedVariables false
set_option linter.unusedSimpArgs false
set_option maxRecDepth 100000
set_option maxHeartbeats 16000000
namespace Go.Proofs.YtijnimjmimeefaaGreat.A
open Go.RowKit Go.Proofs.YtijnimjmimeefaaGreat.D Go.Proofs.YtijnimjmimeefaaGreat.O
theorem pUse_at {L : List ByteArray} {o u : Nat} (h : usesI (o : Int) = u) : pUse L o =
 if (u : Int) = 1 then pb pInt fun n => pr ((o : Int), n, 0, es, es, es, es) else
 if (u : Int) = 2 then pb (pText L) fun s => pr ((o : Int), 0, 0, s, es, es, es) else
 if (u : Int) = 3 then pb (pNum 2000) fun k => pr ((o : Int), 0, (k : Int), es, es, es, es) else
 if (u : Int) = 4 then pb (pText L) fun c => pb (pText L) fun m => pr ((o : Int), 0, 0, es, c, m, es) else
 if (u : Int) = 5 then pb (pText L) fun c => pb (pText L) fun m => pb (pText L) fun d => pr ((o : Int), 0, 0, es, c, m, d) else
 if (u : Int) = 6 then pb (pText L) fun c => pr ((o : Int), 0, 0, es, c, es, es) else pr ((o : Int), 0, 0, es, es, es, es) := by
 unfold pUse
 rw [h]
theorem instr_s (C : Cx) (s0 : St) (w : World) (h : Src w C s0) (_hg : Glob w) : Calls Tryz.prog 147 #[.pointer (some ⟨C.sb, 0, none⟩)] w (TookX C (sP insC) gI (pIns C.L) s0 w) := by
 have hb0 : Below w.heap.size w (w.alloc (.cells #[.int .i64 0, .int .i32 0, .int .i64 0, .string ⟨#[]⟩, .string ⟨#[]⟩, .string ⟨#[]⟩, .string ⟨#[]⟩] 61)) := ((Below.refl _ _).alloc (Nat.le_refl _) _)
 have hs0 := h.below hb0
 have ht := h.top
 have hx0 : (w.alloc (.cells #[.int .i64 0, .int .i32 0, .int .i64 0, .string ⟨#[]⟩, .string ⟨#[]⟩, .string ⟨#[]⟩, .string ⟨#[]⟩] 61)).heap[w.heap.size]? = some (.cells #[.int .i64 0, .int .i32 0, .int .i64 0, .string ⟨#[]⟩, .string ⟨#[]⟩, .string ⟨#[]⟩, .string ⟨#[]⟩] 61 (0, 0)) := heap_alloc_new _ _
 have F0 : Fs C w (w.alloc (.cells #[.int .i64 0, .int .i32 0, .int .i64 0, .string ⟨#[]⟩, .string ⟨#[]⟩, .string ⟨#[]⟩, .string ⟨#[]⟩] 61)) := .of_below hb0
 obtain ⟨q1, q2, c0, c1, f2⟩ := hs0.cells
 obtain ⟨-, b0, -⟩ := boxN hx0
 go_enter Tryz.func147, Tryz.ntmps147
 go_wp2_with fail
 refine (num_s C s0 43 _ _ hs0 (by rfl) (by decide)).mono ?_
 rintro r w1 ⟨n1, s1, rfl, hn1, t1, hs1, hf1⟩
 have hx1 := hf1.box hs0 ht hx0
 have HT1 := hid t1
 have F1 := F0.trans hf1
 clear t1
 obtain ⟨q1_1, q2_1, c0_1, c1_1, f2_1⟩ := hs1.cells
 obtain ⟨hl1, hcs1, hfz1⟩ := boxN hx1
 have y1_0 := hcs1 0 _ rfl
 have y1_1 := hcs1 1 _ rfl
 have y1_2 := hcs1 2 _ rfl
 have y1_3 := hcs1 3 _ rfl
 have y1_4 := hcs1 4 _ rfl
 have y1_5 := hcs1 5 _ rfl
 have y1_6 := hcs1 6 _ rfl
 have z1_0 := hfz1 0
 have z1_1 := hfz1 1
 have z1_2 := hfz1 2
 have z1_3 := hfz1 3
 have z1_4 := hfz1 4
 have z1_5 := hfz1 5
 have z1_6 := hfz1 6
 simp only [Nat.zero_add] at y1_0 y1_1 y1_2 y1_3 y1_4 y1_5 y1_6
 obtain ⟨p, hp⟩ : ∃ p, p = pUse C.L n1 := ⟨_, rfl⟩
 have HQ := hid hp.symm
 have hbB : Below w1.heap.size w1 (w1.alloc (.cells #[.int .i64 (n1 : Int), .int .i32 0, .int .i64 0, .string ⟨#[]⟩, .string ⟨#[]⟩, .string ⟨#[]⟩, .string ⟨#[]⟩] 61)) := (Below.refl _ _).alloc (Nat.le_refl _) _
 have hy2 : (w1.alloc (.cells #[.int .i64 (n1 : Int), .int .i32 0, .int .i64 0, .string ⟨#[]⟩, .string ⟨#[]⟩, .string ⟨#[]⟩, .string ⟨#[]⟩] 61)).heap[w1.heap.size]? = some (.cells #[.int .i64 (n1 : Int), .int .i32 0, .int .i64 0, .string ⟨#[]⟩, .string ⟨#[]⟩, .string ⟨#[]⟩, .string ⟨#[]⟩] 61 (0, 0)) := heap_alloc_new _ _
 have hty : C.top <= w1.heap.size := Nat.le_trans ht F1.size
 have hs2 := hs1.below hbB
 have hx2 := Below.box hbB hx1
 have F2 := F1.trans (.of_below hbB)
 have hne : w.heap.size < w1.heap.size := hl1
 skip
 have hu6 := uses_six (n1 : Int)
 rcases hu6 with hU | hU | hU | hU | hU | hU | hU
 ·have HP := hid (hp.trans (pUse_at (u := 0) hU))
  clear hp
  go_wp2_with fail
  refine (uses_any (n1 : Int) _).mono ?_
  rintro r w2 ⟨rfl, hw⟩
  rw [hw] at hs2 hx2 hy2 F2 hbB
  obtain ⟨q1_2, q2_2, c0_2, c1_2, f2_2⟩ := hs2.cells
  obtain ⟨hl2, hcs2, hfz2⟩ := boxN hx2
  have y2_0 := hcs2 0 _ rfl
  have y2_1 := hcs2 1 _ rfl
  have y2_2 := hcs2 2 _ rfl
  have y2_3 := hcs2 3 _ rfl
  have y2_4 := hcs2 4 _ rfl
  have y2_5 := hcs2 5 _ rfl
  have y2_6 := hcs2 6 _ rfl
  have z2_0 := hfz2 0
  have z2_1 := hfz2 1
  have z2_2 := hfz2 2
  have z2_3 := hfz2 3
  have z2_4 := hfz2 4
  have z2_5 := hfz2 5
  have z2_6 := hfz2 6
  simp only [Nat.zero_add] at y2_0 y2_1 y2_2 y2_3 y2_4 y2_5 y2_6
  obtain ⟨yl2, yc2, yf2⟩ := boxN hy2
  have u2_0 := yc2 0 _ rfl
  have u2_1 := yc2 1 _ rfl
  have u2_2 := yc2 2 _ rfl
  have u2_3 := yc2 3 _ rfl
  have u2_4 := yc2 4 _ rfl
  have u2_5 := yc2 5 _ rfl
  have u2_6 := yc2 6 _ rfl
  have v2_0 := yf2 0
  have v2_1 := yf2 1
  have v2_2 := yf2 2
  have v2_3 := yf2 3
  have v2_4 := yf2 4
  have v2_5 := yf2 5
  have v2_6 := yf2 6
  simp only [Nat.zero_add] at u2_0 u2_1 u2_2 u2_3 u2_4 u2_5 u2_6
  clear hw b0 y1_0 y1_1 y1_2 y1_3 y1_4 y1_5 y1_6 z1_0 z1_1 z1_2 z1_3 z1_4 z1_5 z1_6 hcs1 hfz1
  rw [hU]
  go_wp2_with fail
  have hkk : ∀ W, Kpt [w.heap.size, w1.heap.size] w2 W -> Src W C s1 /\ Fs C w W := fun W k => ⟨hs2.kpt k (fun x hx => by simp; omega), Fs.fin F2 (fun x hx => by simp at hx; omega) k⟩
  refine bodyPost_ret (v := .agg (insC ((n1 : Int), (0 : Int), (0 : Int), es, es, es, es)).toArray) (by simp [results, Tryz.results147, go_sem, insC, es, y2_0, y2_1, y2_2, y2_3, y2_4, y2_5, y2_6, u2_0, u2_1, u2_2, u2_3, u2_4, u2_5, u2_6]) rfl ⟨_, ((n1 : Int), (0 : Int), (0 : Int), es, es, es, es), s1, rfl, rfl, ?_, took_pb HT1.out ?_, ?_, ?_⟩
  ·refine ⟨⟨?_, ?_, ?_, ?_⟩, ?_, ?_⟩ <;> simp only [es] <;> first | omega | decide
  ·rw [<- show pUse C.L n1 = pUse C.L n1 from rfl]; have hq := HP.out; first | (rw [show pUse C.L n1 = p from HQ.out, hq]; exact adv_pr _ _) | skip
  ·exact (hkk _ (Kpt.snoc (Kpt.snoc (Kpt.snoc (Kpt.snoc (Kpt.snoc (Kpt.snoc (Kpt.snoc (Kpt.refl _ _) (by simp)) (by simp)) (by simp)) (by simp)) (by simp)) (by simp)) (by simp))).1
  ·exact (hkk _ (Kpt.snoc (Kpt.snoc (Kpt.snoc (Kpt.snoc (Kpt.snoc (Kpt.snoc (Kpt.snoc (Kpt.refl _ _) (by simp)) (by simp)) (by simp)) (by simp)) (by simp)) (by simp)) (by simp))).2
 ·have HP := hid (hp.trans (pUse_at (u := 1) hU))
  clear hp
  go_wp2_with fail
  refine (uses_any (n1 : Int) _).mono ?_
  rintro r w2 ⟨rfl, hw⟩
  rw [hw] at hs2 hx2 hy2 F2 hbB
  obtain ⟨q1_2, q2_2, c0_2, c1_2, f2_2⟩ := hs2.cells
  obtain ⟨hl2, hcs2, hfz2⟩ := boxN hx2
  have y2_0 := hcs2 0 _ rfl
  have y2_1 := hcs2 1 _ rfl
  have y2_2 := hcs2 2 _ rfl
  have y2_3 := hcs2 3 _ rfl
  have y2_4 := hcs2 4 _ rfl
  have y2_5 := hcs2 5 _ rfl
  have y2_6 := hcs2 6 _ rfl
  have z2_0 := hfz2 0
  have z2_1 := hfz2 1
  have z2_2 := hfz2 2
  have z2_3 := hfz2 3
  have z2_4 := hfz2 4
  have z2_5 := hfz2 5
  have z2_6 := hfz2 6
  simp only [Nat.zero_add] at y2_0 y2_1 y2_2 y2_3 y2_4 y2_5 y2_6
  obtain ⟨yl2, yc2, yf2⟩ := boxN hy2
  have u2_0 := yc2 0 _ rfl
  have u2_1 := yc2 1 _ rfl
  have u2_2 := yc2 2 _ rfl
  have u2_3 := yc2 3 _ rfl
  have u2_4 := yc2 4 _ rfl
  have u2_5 := yc2 5 _ rfl
  have u2_6 := yc2 6 _ rfl
  have v2_0 := yf2 0
  have v2_1 := yf2 1
  have v2_2 := yf2 2
  have v2_3 := yf2 3
  have v2_4 := yf2 4
  have v2_5 := yf2 5
  have v2_6 := yf2 6
  simp only [Nat.zero_add] at u2_0 u2_1 u2_2 u2_3 u2_4 u2_5 u2_6
  clear hw b0 y1_0 y1_1 y1_2 y1_3 y1_4 y1_5 y1_6 z1_0 z1_1 z1_2 z1_3 z1_4 z1_5 z1_6 hcs1 hfz1
  rw [hU]
  go_wp2_with fail
  refine (int_s C s1 _ hs2).mono ?_
  rintro r w3 ⟨n3, s3, rfl, hn3, t3, hs3, hf3⟩
  have hx3 := hf3.box hs2 ht hx2
  have HT3 := hid t3
  have F3 := F2.trans hf3
  clear t3
  have hy3 := hf3.box hs2 hty hy2
  obtain ⟨q1_3, q2_3, c0_3, c1_3, f2_3⟩ := hs3.cells
  obtain ⟨hl3, hcs3, hfz3⟩ := boxN hx3
  have y3_0 := hcs3 0 _ rfl
  have y3_1 := hcs3 1 _ rfl
  have y3_2 := hcs3 2 _ rfl
  have y3_3 := hcs3 3 _ rfl
  have y3_4 := hcs3 4 _ rfl
  have y3_5 := hcs3 5 _ rfl
  have y3_6 := hcs3 6 _ rfl
  have z3_0 := hfz3 0
  have z3_1 := hfz3 1
  have z3_2 := hfz3 2
  have z3_3 := hfz3 3
  have z3_4 := hfz3 4
  have z3_5 := hfz3 5
  have z3_6 := hfz3 6
  simp only [Nat.zero_add] at y3_0 y3_1 y3_2 y3_3 y3_4 y3_5 y3_6
  obtain ⟨yl3, yc3, yf3⟩ := boxN hy3
  have u3_0 := yc3 0 _ rfl
  have u3_1 := yc3 1 _ rfl
  have u3_2 := yc3 2 _ rfl
  have u3_3 := yc3 3 _ rfl
  have u3_4 := yc3 4 _ rfl
  have u3_5 := yc3 5 _ rfl
  have u3_6 := yc3 6 _ rfl
  have v3_0 := yf3 0
  have v3_1 := yf3 1
  have v3_2 := yf3 2
  have v3_3 := yf3 3
  have v3_4 := yf3 4
  have v3_5 := yf3 5
  have v3_6 := yf3 6
  simp only [Nat.zero_add] at u3_0 u3_1 u3_2 u3_3 u3_4 u3_5 u3_6
  go_wp2_with fail
  have hkk : ∀ W, Kpt [w.heap.size, w1.heap.size] w3 W -> Src W C s3 /\ Fs C w W := fun W k => ⟨hs3.kpt k (fun x hx => by simp; omega), Fs.fin F3 (fun x hx => by simp at hx; omega) k⟩
  refine bodyPost_ret (v := .agg (insC ((n1 : Int), n3, (0 : Int), es, es, es, es)).toArray) (by simp [results, Tryz.results147, go_sem, insC, es, y3_0, y3_1, y3_2, y3_3, y3_4, y3_5, y3_6, u3_0, u3_1, u3_2, u3_3, u3_4, u3_5, u3_6]) rfl ⟨_, ((n1 : Int), n3, (0 : Int), es, es, es, es), s3, rfl, rfl, ?_, took_pb HT1.out ?_, ?_, ?_⟩
  ·refine ⟨⟨?_, ?_, ?_, ?_⟩, ?_, ?_⟩ <;> simp only [es] <;> first | omega | decide
  ·rw [<- show pUse C.L n1 = pUse C.L n1 from rfl]; have hq := HP.out; first | (rw [show pUse C.L n1 = p from HQ.out, hq]; exact took_map HT3.out) | skip
  ·exact (hkk _ (Kpt.snoc (Kpt.snoc (Kpt.snoc (Kpt.snoc (Kpt.snoc (Kpt.snoc (Kpt.snoc (Kpt.snoc (Kpt.refl _ _) (by simp)) (by simp)) (by simp)) (by simp)) (by simp)) (by simp)) (by simp)) (by simp))).1
  ·exact (hkk _ (Kpt.snoc (Kpt.snoc (Kpt.snoc (Kpt.snoc (Kpt.snoc (Kpt.snoc (Kpt.snoc (Kpt.snoc (Kpt.refl _ _) (by simp)) (by simp)) (by simp)) (by simp)) (by simp)) (by simp)) (by simp)) (by simp))).2
 ·have HP := hid (hp.trans (pUse_at (u := 2) hU))
  clear hp
  go_wp2_with fail
  refine (uses_any (n1 : Int) _).mono ?_
  rintro r w2 ⟨rfl, hw⟩
  rw [hw] at hs2 hx2 hy2 F2 hbB
  obtain ⟨q1_2, q2_2, c0_2, c1_2, f2_2⟩ := hs2.cells
  obtain ⟨hl2, hcs2, hfz2⟩ := boxN hx2
  have y2_0 := hcs2 0 _ rfl
  have y2_1 := hcs2 1 _ rfl
  have y2_2 := hcs2 2 _ rfl
  have y2_3 := hcs2 3 _ rfl
  have y2_4 := hcs2 4 _ rfl
  have y2_5 := hcs2 5 _ rfl
  have y2_6 := hcs2 6 _ rfl
  have z2_0 := hfz2 0
  have z2_1 := hfz2 1
  have z2_2 := hfz2 2
  have z2_3 := hfz2 3
  have z2_4 := hfz2 4
  have z2_5 := hfz2 5
  have z2_6 := hfz2 6
  simp only [Nat.zero_add] at y2_0 y2_1 y2_2 y2_3 y2_4 y2_5 y2_6
  obtain ⟨yl2, yc2, yf2⟩ := boxN hy2
  have u2_0 := yc2 0 _ rfl
  have u2_1 := yc2 1 _ rfl
  have u2_2 := yc2 2 _ rfl
  have u2_3 := yc2 3 _ rfl
  have u2_4 := yc2 4 _ rfl
  have u2_5 := yc2 5 _ rfl
  have u2_6 := yc2 6 _ rfl
  have v2_0 := yf2 0
  have v2_1 := yf2 1
  have v2_2 := yf2 2
  have v2_3 := yf2 3
  have v2_4 := yf2 4
  have v2_5 := yf2 5
  have v2_6 := yf2 6
  simp only [Nat.zero_add] at u2_0 u2_1 u2_2 u2_3 u2_4 u2_5 u2_6
  clear hw b0 y1_0 y1_1 y1_2 y1_3 y1_4 y1_5 y1_6 z1_0 z1_1 z1_2 z1_3 z1_4 z1_5 z1_6 hcs1 hfz1
  rw [hU]
  go_wp2_with fail
  refine (text_s C s1 _ hs2).mono ?_
  rintro r w3 ⟨n3, s3, rfl, hn3, t3, hs3, hf3⟩
  have hx3 := hf3.box hs2 ht hx2
  have HT3 := hid t3
  have F3 := F2.trans hf3
  clear t3
  have hy3 := hf3.box hs2 hty hy2
  obtain ⟨q1_3, q2_3, c0_3, c1_3, f2_3⟩ := hs3.cells
  obtain ⟨hl3, hcs3, hfz3⟩ := boxN hx3
  have y3_0 := hcs3 0 _ rfl
  have y3_1 := hcs3 1 _ rfl
  have y3_2 := hcs3 2 _ rfl
  have y3_3 := hcs3 3 _ rfl
  have y3_4 := hcs3 4 _ rfl
  have y3_5 := hcs3 5 _ rfl
  have y3_6 := hcs3 6 _ rfl
  have z3_0 := hfz3 0
  have z3_1 := hfz3 1
  have z3_2 := hfz3 2
  have z3_3 := hfz3 3
  have z3_4 := hfz3 4
  have z3_5 := hfz3 5
  have z3_6 := hfz3 6
  simp only [Nat.zero_add] at y3_0 y3_1 y3_2 y3_3 y3_4 y3_5 y3_6
  obtain ⟨yl3, yc3, yf3⟩ := boxN hy3
  have u3_0 := yc3 0 _ rfl
  have u3_1 := yc3 1 _ rfl
  have u3_2 := yc3 2 _ rfl
  have u3_3 := yc3 3 _ rfl
  have u3_4 := yc3 4 _ rfl
  have u3_5 := yc3 5 _ rfl
  have u3_6 := yc3 6 _ rfl
  have v3_0 := yf3 0
  have v3_1 := yf3 1
  have v3_2 := yf3 2
  have v3_3 := yf3 3
  have v3_4 := yf3 4
  have v3_5 := yf3 5
  have v3_6 := yf3 6
  simp only [Nat.zero_add] at u3_0 u3_1 u3_2 u3_3 u3_4 u3_5 u3_6
  go_wp2_with fail
  have hkk : ∀ W, Kpt [w.heap.size, w1.heap.size] w3 W -> Src W C s3 /\ Fs C w W := fun W k => ⟨hs3.kpt k (fun x hx => by simp; omega), Fs.fin F3 (fun x hx => by simp at hx; omega) k⟩
  refine bodyPost_ret (v := .agg (insC ((n1 : Int), (0 : Int), (0 : Int), n3, es, es, es)).toArray) (by simp [results, Tryz.results147, go_sem, insC, es, y3_0, y3_1, y3_2, y3_3, y3_4, y3_5, y3_6, u3_0, u3_1, u3_2, u3_3, u3_4, u3_5, u3_6]) rfl ⟨_, ((n1 : Int), (0 : Int), (0 : Int), n3, es, es, es), s3, rfl, rfl, ?_, took_pb HT1.out ?_, ?_, ?_⟩
  ·refine ⟨⟨?_, ?_, ?_, ?_⟩, ?_, ?_⟩ <;> simp only [es] <;> first | omega | decide
  ·rw [<- show pUse C.L n1 = pUse C.L n1 from rfl]; have hq := HP.out; first | (rw [show pUse C.L n1 = p from HQ.out, hq]; exact took_map HT3.out) | skip
  ·exact (hkk _ (Kpt.snoc (Kpt.snoc (Kpt.snoc (Kpt.snoc (Kpt.snoc (Kpt.snoc (Kpt.snoc (Kpt.snoc (Kpt.refl _ _) (by simp)) (by simp)) (by simp)) (by simp)) (by simp)) (by simp)) (by simp)) (by simp))).1
  ·exact (hkk _ (Kpt.snoc (Kpt.snoc (Kpt.snoc (Kpt.snoc (Kpt.snoc (Kpt.snoc (Kpt.snoc (Kpt.snoc (Kpt.refl _ _) (by simp)) (by simp)) (by simp)) (by simp)) (by simp)) (by simp)) (by simp)) (by simp))).2
 ·have HP := hid (hp.trans (pUse_at (u := 3) hU))
  clear hp
  go_wp2_with fail
  refine (uses_any (n1 : Int) _).mono ?_
  rintro r w2 ⟨rfl, hw⟩
  rw [hw] at hs2 hx2 hy2 F2 hbB
  obtain ⟨q1_2, q2_2, c0_2, c1_2, f2_2⟩ := hs2.cells
  obtain ⟨hl2, hcs2, hfz2⟩ := boxN hx2
  have y2_0 := hcs2 0 _ rfl
  have y2_1 := hcs2 1 _ rfl
  have y2_2 := hcs2 2 _ rfl
  have y2_3 := hcs2 3 _ rfl
  have y2_4 := hcs2 4 _ rfl
  have y2_5 := hcs2 5 _ rfl
  have y2_6 := hcs2 6 _ rfl
  have z2_0 := hfz2 0
  have z2_1 := hfz2 1
  have z2_2 := hfz2 2
  have z2_3 := hfz2 3
  have z2_4 := hfz2 4
  have z2_5 := hfz2 5
  have z2_6 := hfz2 6
  simp only [Nat.zero_add] at y2_0 y2_1 y2_2 y2_3 y2_4 y2_5 y2_6
  obtain ⟨yl2, yc2, yf2⟩ := boxN hy2
  have u2_0 := yc2 0 _ rfl
  have u2_1 := yc2 1 _ rfl
  have u2_2 := yc2 2 _ rfl
  have u2_3 := yc2 3 _ rfl
  have u2_4 := yc2 4 _ rfl
  have u2_5 := yc2 5 _ rfl
  have u2_6 := yc2 6 _ rfl
  have v2_0 := yf2 0
  have v2_1 := yf2 1
  have v2_2 := yf2 2
  have v2_3 := yf2 3
  have v2_4 := yf2 4
  have v2_5 := yf2 5
  have v2_6 := yf2 6
  simp only [Nat.zero_add] at u2_0 u2_1 u2_2 u2_3 u2_4 u2_5 u2_6
  clear hw b0 y1_0 y1_1 y1_2 y1_3 y1_4 y1_5 y1_6 z1_0 z1_1 z1_2 z1_3 z1_4 z1_5 z1_6 hcs1 hfz1
  rw [hU]
  go_wp2_with fail
  refine (num_s C s1 2000 _ _ hs2 (by rfl) (by decide)).mono ?_
  rintro r w3 ⟨n3, s3, rfl, hn3, t3, hs3, hf3⟩
  have hx3 := hf3.box hs2 ht hx2
  have HT3 := hid t3
  have F3 := F2.trans hf3
  clear t3
  have hy3 := hf3.box hs2 hty hy2
  obtain ⟨q1_3, q2_3, c0_3, c1_3, f2_3⟩ := hs3.cells
  obtain ⟨hl3, hcs3, hfz3⟩ := boxN hx3
  have y3_0 := hcs3 0 _ rfl
  have y3_1 := hcs3 1 _ rfl
  have y3_2 := hcs3 2 _ rfl
  have y3_3 := hcs3 3 _ rfl
  have y3_4 := hcs3 4 _ rfl
  have y3_5 := hcs3 5 _ rfl
  have y3_6 := hcs3 6 _ rfl
  have z3_0 := hfz3 0
  have z3_1 := hfz3 1
  have z3_2 := hfz3 2
  have z3_3 := hfz3 3
  have z3_4 := hfz3 4
  have z3_5 := hfz3 5
  have z3_6 := hfz3 6
  simp only [Nat.zero_add] at y3_0 y3_1 y3_2 y3_3 y3_4 y3_5 y3_6
  obtain ⟨yl3, yc3, yf3⟩ := boxN hy3
  have u3_0 := yc3 0 _ rfl
  have u3_1 := yc3 1 _ rfl
  have u3_2 := yc3 2 _ rfl
  have u3_3 := yc3 3 _ rfl
  have u3_4 := yc3 4 _ rfl
  have u3_5 := yc3 5 _ rfl
  have u3_6 := yc3 6 _ rfl
  have v3_0 := yf3 0
  have v3_1 := yf3 1
  have v3_2 := yf3 2
  have v3_3 := yf3 3
  have v3_4 := yf3 4
  have v3_5 := yf3 5
  have v3_6 := yf3 6
  simp only [Nat.zero_add] at u3_0 u3_1 u3_2 u3_3 u3_4 u3_5 u3_6
  go_wp2_with fail
  have hkk : ∀ W, Kpt [w.heap.size, w1.heap.size] w3 W -> Src W C s3 /\ Fs C w W := fun W k => ⟨hs3.kpt k (fun x hx => by simp; omega), Fs.fin F3 (fun x hx => by simp at hx; omega) k⟩
  refine bodyPost_ret (v := .agg (insC ((n1 : Int), (0 : Int), (n3 : Int), es, es, es, es)).toArray) (by simp [results, Tryz.results147, go_sem, insC, es, y3_0, y3_1, y3_2, y3_3, y3_4, y3_5, y3_6, u3_0, u3_1, u3_2, u3_3, u3_4, u3_5, u3_6]) rfl ⟨_, ((n1 : Int), (0 : Int), (n3 : Int), es, es, es, es), s3, rfl, rfl, ?_, took_pb HT1.out ?_, ?_, ?_⟩
  ·refine ⟨⟨?_, ?_, ?_, ?_⟩, ?_, ?_⟩ <;> simp only [es] <;> first | omega | decide
  ·rw [<- show pUse C.L n1 = pUse C.L n1 from rfl]; have hq := HP.out; first | (rw [show pUse C.L n1 = p from HQ.out, hq]; exact took_map HT3.out) | skip
  ·exact (hkk _ (Kpt.snoc (Kpt.snoc (Kpt.snoc (Kpt.snoc (Kpt.snoc (Kpt.snoc (Kpt.snoc (Kpt.snoc (Kpt.refl _ _) (by simp)) (by simp)) (by simp)) (by simp)) (by simp)) (by simp)) (by simp)) (by simp))).1
  ·exact (hkk _ (Kpt.snoc (Kpt.snoc (Kpt.snoc (Kpt.snoc (Kpt.snoc (Kpt.snoc (Kpt.snoc (Kpt.snoc (Kpt.refl _ _) (by simp)) (by simp)) (by simp)) (by simp)) (by simp)) (by simp)) (by simp)) (by simp))).2
 ·have HP := hid (hp.trans (pUse_at (u := 4) hU))
  clear hp
  go_wp2_with fail
  refine (uses_any (n1 : Int) _).mono ?_
  rintro r w2 ⟨rfl, hw⟩
  rw [hw] at hs2 hx2 hy2 F2 hbB
  obtain ⟨q1_2, q2_2, c0_2, c1_2, f2_2⟩ := hs2.cells
  obtain ⟨hl2, hcs2, hfz2⟩ := boxN hx2
  have y2_0 := hcs2 0 _ rfl
  have y2_1 := hcs2 1 _ rfl
  have y2_2 := hcs2 2 _ rfl
  have y2_3 := hcs2 3 _ rfl
  have y2_4 := hcs2 4 _ rfl
  have y2_5 := hcs2 5 _ rfl
  have y2_6 := hcs2 6 _ rfl
  have z2_0 := hfz2 0
  have z2_1 := hfz2 1
  have z2_2 := hfz2 2
  have z2_3 := hfz2 3
  have z2_4 := hfz2 4
  have z2_5 := hfz2 5
  have z2_6 := hfz2 6
  simp only [Nat.zero_add] at y2_0 y2_1 y2_2 y2_3 y2_4 y2_5 y2_6
  obtain ⟨yl2, yc2, yf2⟩ := boxN hy2
  have u2_0 := yc2 0 _ rfl
  have u2_1 := yc2 1 _ rfl
  have u2_2 := yc2 2 _ rfl
  have u2_3 := yc2 3 _ rfl
  have u2_4 := yc2 4 _ rfl
  have u2_5 := yc2 5 _ rfl
  have u2_6 := yc2 6 _ rfl
  have v2_0 := yf2 0
  have v2_1 := yf2 1
  have v2_2 := yf2 2
  have v2_3 := yf2 3
  have v2_4 := yf2 4
  have v2_5 := yf2 5
  have v2_6 := yf2 6
  simp only [Nat.zero_add] at u2_0 u2_1 u2_2 u2_3 u2_4 u2_5 u2_6
  clear hw b0 y1_0 y1_1 y1_2 y1_3 y1_4 y1_5 y1_6 z1_0 z1_1 z1_2 z1_3 z1_4 z1_5 z1_6 hcs1 hfz1
  rw [hU]
  go_wp2_with fail
  refine (text_s C s1 _ hs2).mono ?_
  rintro r w3 ⟨n3, s3, rfl, hn3, t3, hs3, hf3⟩
  have hx3 := hf3.box hs2 ht hx2
  have HT3 := hid t3
  have F3 := F2.trans hf3
  clear t3
  have hy3 := hf3.box hs2 hty hy2
  obtain ⟨q1_3, q2_3, c0_3, c1_3, f2_3⟩ := hs3.cells
  obtain ⟨hl3, hcs3, hfz3⟩ := boxN hx3
  have y3_0 := hcs3 0 _ rfl
  have y3_1 := hcs3 1 _ rfl
  have y3_2 := hcs3 2 _ rfl
  have y3_3 := hcs3 3 _ rfl
  have y3_4 := hcs3 4 _ rfl
  have y3_5 := hcs3 5 _ rfl
  have y3_6 := hcs3 6 _ rfl
  have z3_0 := hfz3 0
  have z3_1 := hfz3 1
  have z3_2 := hfz3 2
  have z3_3 := hfz3 3
  have z3_4 := hfz3 4
  have z3_5 := hfz3 5
  have z3_6 := hfz3 6
  simp only [Nat.zero_add] at y3_0 y3_1 y3_2 y3_3 y3_4 y3_5 y3_6
  obtain ⟨yl3, yc3, yf3⟩ := boxN hy3
  have u3_0 := yc3 0 _ rfl
  have u3_1 := yc3 1 _ rfl
  have u3_2 := yc3 2 _ rfl
  have u3_3 := yc3 3 _ rfl
  have u3_4 := yc3 4 _ rfl
  have u3_5 := yc3 5 _ rfl
  have u3_6 := yc3 6 _ rfl
  have v3_0 := yf3 0
  have v3_1 := yf3 1
  have v3_2 := yf3 2
  have v3_3 := yf3 3
  have v3_4 := yf3 4
  have v3_5 := yf3 5
  have v3_6 := yf3 6
  simp only [Nat.zero_add] at u3_0 u3_1 u3_2 u3_3 u3_4 u3_5 u3_6
  go_wp2_with fail
  refine (text_s C s3 _ hs3).mono ?_
  rintro r w4 ⟨n4, s4, rfl, hn4, t4, hs4, hf4⟩
  have hx4 := hf4.box hs3 ht hx3
  have HT4 := hid t4
  have F4 := F3.trans hf4
  clear t4
  have hy4 := hf4.box hs3 hty hy3
  obtain ⟨q1_4, q2_4, c0_4, c1_4, f2_4⟩ := hs4.cells
  obtain ⟨hl4, hcs4, hfz4⟩ := boxN hx4
  have y4_0 := hcs4 0 _ rfl
  have y4_1 := hcs4 1 _ rfl
  have y4_2 := hcs4 2 _ rfl
  have y4_3 := hcs4 3 _ rfl
  have y4_4 := hcs4 4 _ rfl
  have y4_5 := hcs4 5 _ rfl
  have y4_6 := hcs4 6 _ rfl
  have z4_0 := hfz4 0
  have z4_1 := hfz4 1
  have z4_2 := hfz4 2
  have z4_3 := hfz4 3
  have z4_4 := hfz4 4
  have z4_5 := hfz4 5
  have z4_6 := hfz4 6
  simp only [Nat.zero_add] at y4_0 y4_1 y4_2 y4_3 y4_4 y4_5 y4_6
  obtain ⟨yl4, yc4, yf4⟩ := boxN hy4
  have u4_0 := yc4 0 _ rfl
  have u4_1 := yc4 1 _ rfl
  have u4_2 := yc4 2 _ rfl
  have u4_3 := yc4 3 _ rfl
  have u4_4 := yc4 4 _ rfl
  have u4_5 := yc4 5 _ rfl
  have u4_6 := yc4 6 _ rfl
  have v4_0 := yf4 0
  have v4_1 := yf4 1
  have v4_2 := yf4 2
  have v4_3 := yf4 3
  have v4_4 := yf4 4
  have v4_5 := yf4 5
  have v4_6 := yf4 6
  simp only [Nat.zero_add] at u4_0 u4_1 u4_2 u4_3 u4_4 u4_5 u4_6
  go_wp2_with fail
  have hkk : ∀ W, Kpt [w.heap.size, w1.heap.size] w4 W -> Src W C s4 /\ Fs C w W := fun W k => ⟨hs4.kpt k (fun x hx => by simp; omega), Fs.fin F4 (fun x hx => by simp at hx; omega) k⟩
  refine bodyPost_ret (v := .agg (insC ((n1 : Int), (0 : Int), (0 : Int), es, n3, n4, es)).toArray) (by simp [results, Tryz.results147, go_sem, insC, es, y4_0, y4_1, y4_2, y4_3, y4_4, y4_5, y4_6, u4_0, u4_1, u4_2, u4_3, u4_4, u4_5, u4_6]) rfl ⟨_, ((n1 : Int), (0 : Int), (0 : Int), es, n3, n4, es), s4, rfl, rfl, ?_, took_pb HT1.out ?_, ?_, ?_⟩
  ·refine ⟨⟨?_, ?_, ?_, ?_⟩, ?_, ?_⟩ <;> simp only [es] <;> first | omega | decide
  ·rw [<- show pUse C.L n1 = pUse C.L n1 from rfl]; have hq := HP.out; first | (rw [show pUse C.L n1 = p from HQ.out, hq]; exact took_pb HT3.out (took_map HT4.out)) | skip
  ·exact (hkk _ (Kpt.snoc (Kpt.snoc (Kpt.snoc (Kpt.snoc (Kpt.snoc (Kpt.snoc (Kpt.snoc (Kpt.snoc (Kpt.snoc (Kpt.refl _ _) (by simp)) (by simp)) (by simp)) (by simp)) (by simp)) (by simp)) (by simp)) (by simp)) (by simp))).1
  ·exact (hkk _ (Kpt.snoc (Kpt.snoc (Kpt.snoc (Kpt.snoc (Kpt.snoc (Kpt.snoc (Kpt.snoc (Kpt.snoc (Kpt.snoc (Kpt.refl _ _) (by simp)) (by simp)) (by simp)) (by simp)) (by simp)) (by simp)) (by simp)) (by simp)) (by simp))).2
 ·have HP := hid (hp.trans (pUse_at (u := 5) hU))
  clear hp
  go_wp2_with fail
  refine (uses_any (n1 : Int) _).mono ?_
  rintro r w2 ⟨rfl, hw⟩
  rw [hw] at hs2 hx2 hy2 F2 hbB
  obtain ⟨q1_2, q2_2, c0_2, c1_2, f2_2⟩ := hs2.cells
  obtain ⟨hl2, hcs2, hfz2⟩ := boxN hx2
  have y2_0 := hcs2 0 _ rfl
  have y2_1 := hcs2 1 _ rfl
  have y2_2 := hcs2 2 _ rfl
  have y2_3 := hcs2 3 _ rfl
  have y2_4 := hcs2 4 _ rfl
  have y2_5 := hcs2 5 _ rfl
  have y2_6 := hcs2 6 _ rfl
  have z2_0 := hfz2 0
  have z2_1 := hfz2 1
  have z2_2 := hfz2 2
  have z2_3 := hfz2 3
  have z2_4 := hfz2 4
  have z2_5 := hfz2 5
  have z2_6 := hfz2 6
  simp only [Nat.zero_add] at y2_0 y2_1 y2_2 y2_3 y2_4 y2_5 y2_6
  obtain ⟨yl2, yc2, yf2⟩ := boxN hy2
  have u2_0 := yc2 0 _ rfl
  have u2_1 := yc2 1 _ rfl
  have u2_2 := yc2 2 _ rfl
  have u2_3 := yc2 3 _ rfl
  have u2_4 := yc2 4 _ rfl
  have u2_5 := yc2 5 _ rfl
  have u2_6 := yc2 6 _ rfl
  have v2_0 := yf2 0
  have v2_1 := yf2 1
  have v2_2 := yf2 2
  have v2_3 := yf2 3
  have v2_4 := yf2 4
  have v2_5 := yf2 5
  have v2_6 := yf2 6
  simp only [Nat.zero_add] at u2_0 u2_1 u2_2 u2_3 u2_4 u2_5 u2_6
  clear hw b0 y1_0 y1_1 y1_2 y1_3 y1_4 y1_5 y1_6 z1_0 z1_1 z1_2 z1_3 z1_4 z1_5 z1_6 hcs1 hfz1
  rw [hU]
  go_wp2_with fail
  refine (text_s C s1 _ hs2).mono ?_
  rintro r w3 ⟨n3, s3, rfl, hn3, t3, hs3, hf3⟩
  have hx3 := hf3.box hs2 ht hx2
  have HT3 := hid t3
  have F3 := F2.trans hf3
  clear t3
  have hy3 := hf3.box hs2 hty hy2
  obtain ⟨q1_3, q2_3, c0_3, c1_3, f2_3⟩ := hs3.cells
  obtain ⟨hl3, hcs3, hfz3⟩ := boxN hx3
  have y3_0 := hcs3 0 _ rfl
  have y3_1 := hcs3 1 _ rfl
  have y3_2 := hcs3 2 _ rfl
  have y3_3 := hcs3 3 _ rfl
  have y3_4 := hcs3 4 _ rfl
  have y3_5 := hcs3 5 _ rfl
  have y3_6 := hcs3 6 _ rfl
  have z3_0 := hfz3 0
  have z3_1 := hfz3 1
  have z3_2 := hfz3 2
  have z3_3 := hfz3 3
  have z3_4 := hfz3 4
  have z3_5 := hfz3 5
  have z3_6 := hfz3 6
  simp only [Nat.zero_add] at y3_0 y3_1 y3_2 y3_3 y3_4 y3_5 y3_6
  obtain ⟨yl3, yc3, yf3⟩ := boxN hy3
  have u3_0 := yc3 0 _ rfl
  have u3_1 := yc3 1 _ rfl
  have u3_2 := yc3 2 _ rfl
  have u3_3 := yc3 3 _ rfl
  have u3_4 := yc3 4 _ rfl
  have u3_5 := yc3 5 _ rfl
  have u3_6 := yc3 6 _ rfl
  have v3_0 := yf3 0
  have v3_1 := yf3 1
  have v3_2 := yf3 2
  have v3_3 := yf3 3
  have v3_4 := yf3 4
  have v3_5 := yf3 5
  have v3_6 := yf3 6
  simp only [Nat.zero_add] at u3_0 u3_1 u3_2 u3_3 u3_4 u3_5 u3_6
  go_wp2_with fail
  refine (text_s C s3 _ hs3).mono ?_
  rintro r w4 ⟨n4, s4, rfl, hn4, t4, hs4, hf4⟩
  have hx4 := hf4.box hs3 ht hx3
  have HT4 := hid t4
  have F4 := F3.trans hf4
  clear t4
  have hy4 := hf4.box hs3 hty hy3
  obtain ⟨q1_4, q2_4, c0_4, c1_4, f2_4⟩ := hs4.cells
  obtain ⟨hl4, hcs4, hfz4⟩ := boxN hx4
  have y4_0 := hcs4 0 _ rfl
  have y4_1 := hcs4 1 _ rfl
  have y4_2 := hcs4 2 _ rfl
  have y4_3 := hcs4 3 _ rfl
  have y4_4 := hcs4 4 _ rfl
  have y4_5 := hcs4 5 _ rfl
  have y4_6 := hcs4 6 _ rfl
  have z4_0 := hfz4 0
  have z4_1 := hfz4 1
  have z4_2 := hfz4 2
  have z4_3 := hfz4 3
  have z4_4 := hfz4 4
  have z4_5 := hfz4 5
  have z4_6 := hfz4 6
  simp only [Nat.zero_add] at y4_0 y4_1 y4_2 y4_3 y4_4 y4_5 y4_6
  obtain ⟨yl4, yc4, yf4⟩ := boxN hy4
  have u4_0 := yc4 0 _ rfl
  have u4_1 := yc4 1 _ rfl
  have u4_2 := yc4 2 _ rfl
  have u4_3 := yc4 3 _ rfl
  have u4_4 := yc4 4 _ rfl
  have u4_5 := yc4 5 _ rfl
  have u4_6 := yc4 6 _ rfl
  have v4_0 := yf4 0
  have v4_1 := yf4 1
  have v4_2 := yf4 2
  have v4_3 := yf4 3
  have v4_4 := yf4 4
  have v4_5 := yf4 5
  have v4_6 := yf4 6
  simp only [Nat.zero_add] at u4_0 u4_1 u4_2 u4_3 u4_4 u4_5 u4_6
  go_wp2_with fail
  refine (text_s C s4 _ hs4).mono ?_
  rintro r w5 ⟨n5, s5, rfl, hn5, t5, hs5, hf5⟩
  have hx5 := hf5.box hs4 ht hx4
  have HT5 := hid t5
  have F5 := F4.trans hf5
  clear t5
  have hy5 := hf5.box hs4 hty hy4
  obtain ⟨q1_5, q2_5, c0_5, c1_5, f2_5⟩ := hs5.cells
  obtain ⟨hl5, hcs5, hfz5⟩ := boxN hx5
  have y5_0 := hcs5 0 _ rfl
  have y5_1 := hcs5 1 _ rfl
  have y5_2 := hcs5 2 _ rfl
  have y5_3 := hcs5 3 _ rfl
  have y5_4 := hcs5 4 _ rfl
  have y5_5 := hcs5 5 _ rfl
  have y5_6 := hcs5 6 _ rfl
  have z5_0 := hfz5 0
  have z5_1 := hfz5 1
  have z5_2 := hfz5 2
  have z5_3 := hfz5 3
  have z5_4 := hfz5 4
  have z5_5 := hfz5 5
  have z5_6 := hfz5 6
  simp only [Nat.zero_add] at y5_0 y5_1 y5_2 y5_3 y5_4 y5_5 y5_6
  obtain ⟨yl5, yc5, yf5⟩ := boxN hy5
  have u5_0 := yc5 0 _ rfl
  have u5_1 := yc5 1 _ rfl
  have u5_2 := yc5 2 _ rfl
  have u5_3 := yc5 3 _ rfl
  have u5_4 := yc5 4 _ rfl
  have u5_5 := yc5 5 _ rfl
  have u5_6 := yc5 6 _ rfl
  have v5_0 := yf5 0
  have v5_1 := yf5 1
  have v5_2 := yf5 2
  have v5_3 := yf5 3
  have v5_4 := yf5 4
  have v5_5 := yf5 5
  have v5_6 := yf5 6
  simp only [Nat.zero_add] at u5_0 u5_1 u5_2 u5_3 u5_4 u5_5 u5_6
  go_wp2_with fail
  have hkk : ∀ W, Kpt [w.heap.size, w1.heap.size] w5 W -> Src W C s5 /\ Fs C w W := fun W k => ⟨hs5.kpt k (fun x hx => by simp; omega), Fs.fin F5 (fun x hx => by simp at hx; omega) k⟩
  refine bodyPost_ret (v := .agg (insC ((n1 : Int), (0 : Int), (0 : Int), es, n3, n4, n5)).toArray) (by simp [results, Tryz.results147, go_sem, insC, es, y5_0, y5_1, y5_2, y5_3, y5_4, y5_5, y5_6, u5_0, u5_1, u5_2, u5_3, u5_4, u5_5, u5_6]) rfl ⟨_, ((n1 : Int), (0 : Int), (0 : Int), es, n3, n4, n5), s5, rfl, rfl, ?_, took_pb HT1.out ?_, ?_, ?_⟩
  ·refine ⟨⟨?_, ?_, ?_, ?_⟩, ?_, ?_⟩ <;> simp only [es] <;> first | omega | decide
  ·rw [<- show pUse C.L n1 = pUse C.L n1 from rfl]; have hq := HP.out; first | (rw [show pUse C.L n1 = p from HQ.out, hq]; exact took_pb HT3.out (took_pb HT4.out (took_map HT5.out))) | skip
  ·exact (hkk _ (Kpt.snoc (Kpt.snoc (Kpt.snoc (Kpt.snoc (Kpt.snoc (Kpt.snoc (Kpt.snoc (Kpt.snoc (Kpt.snoc (Kpt.snoc (Kpt.refl _ _) (by simp)) (by simp)) (by simp)) (by simp)) (by simp)) (by simp)) (by simp)) (by simp)) (by simp)) (by simp))).1
  ·exact (hkk _ (Kpt.snoc (Kpt.snoc (Kpt.snoc (Kpt.snoc (Kpt.snoc (Kpt.snoc (Kpt.snoc (Kpt.snoc (Kpt.snoc (Kpt.snoc (Kpt.refl _ _) (by simp)) (by simp)) (by simp)) (by simp)) (by simp)) (by simp)) (by simp)) (by simp)) (by simp)) (by simp))).2
 ·have HP := hid (hp.trans (pUse_at (u := 6) hU))
  clear hp
  go_wp2_with fail
  refine (uses_any (n1 : Int) _).mono ?_
  rintro r w2 ⟨rfl, hw⟩
  rw [hw] at hs2 hx2 hy2 F2 hbB
  obtain ⟨q1_2, q2_2, c0_2, c1_2, f2_2⟩ := hs2.cells
  obtain ⟨hl2, hcs2, hfz2⟩ := boxN hx2
  have y2_0 := hcs2 0 _ rfl
  have y2_1 := hcs2 1 _ rfl
  have y2_2 := hcs2 2 _ rfl
  have y2_3 := hcs2 3 _ rfl
  have y2_4 := hcs2 4 _ rfl
  have y2_5 := hcs2 5 _ rfl
  have y2_6 := hcs2 6 _ rfl
  have z2_0 := hfz2 0
  have z2_1 := hfz2 1
  have z2_2 := hfz2 2
  have z2_3 := hfz2 3
  have z2_4 := hfz2 4
  have z2_5 := hfz2 5
  have z2_6 := hfz2 6
  simp only [Nat.zero_add] at y2_0 y2_1 y2_2 y2_3 y2_4 y2_5 y2_6
  obtain ⟨yl2, yc2, yf2⟩ := boxN hy2
  have u2_0 := yc2 0 _ rfl
  have u2_1 := yc2 1 _ rfl
  have u2_2 := yc2 2 _ rfl
  have u2_3 := yc2 3 _ rfl
  have u2_4 := yc2 4 _ rfl
  have u2_5 := yc2 5 _ rfl
  have u2_6 := yc2 6 _ rfl
  have v2_0 := yf2 0
  have v2_1 := yf2 1
  have v2_2 := yf2 2
  have v2_3 := yf2 3
  have v2_4 := yf2 4
  have v2_5 := yf2 5
  have v2_6 := yf2 6
  simp only [Nat.zero_add] at u2_0 u2_1 u2_2 u2_3 u2_4 u2_5 u2_6
  clear hw b0 y1_0 y1_1 y1_2 y1_3 y1_4 y1_5 y1_6 z1_0 z1_1 z1_2 z1_3 z1_4 z1_5 z1_6 hcs1 hfz1
  rw [hU]
  go_wp2_with fail
  refine (text_s C s1 _ hs2).mono ?_
  rintro r w3 ⟨n3, s3, rfl, hn3, t3, hs3, hf3⟩
  have hx3 := hf3.box hs2 ht hx2
  have HT3 := hid t3
  have F3 := F2.trans hf3
  clear t3
  have hy3 := hf3.box hs2 hty hy2
  obtain ⟨q1_3, q2_3, c0_3, c1_3, f2_3⟩ := hs3.cells
  obtain ⟨hl3, hcs3, hfz3⟩ := boxN hx3
  have y3_0 := hcs3 0 _ rfl
  have y3_1 := hcs3 1 _ rfl
  have y3_2 := hcs3 2 _ rfl
  have y3_3 := hcs3 3 _ rfl
  have y3_4 := hcs3 4 _ rfl
  have y3_5 := hcs3 5 _ rfl
  have y3_6 := hcs3 6 _ rfl
  have z3_0 := hfz3 0
  have z3_1 := hfz3 1
  have z3_2 := hfz3 2
  have z3_3 := hfz3 3
  have z3_4 := hfz3 4
  have z3_5 := hfz3 5
  have z3_6 := hfz3 6
  simp only [Nat.zero_add] at y3_0 y3_1 y3_2 y3_3 y3_4 y3_5 y3_6
  obtain ⟨yl3, yc3, yf3⟩ := boxN hy3
  have u3_0 := yc3 0 _ rfl
  have u3_1 := yc3 1 _ rfl
  have u3_2 := yc3 2 _ rfl
  have u3_3 := yc3 3 _ rfl
  have u3_4 := yc3 4 _ rfl
  have u3_5 := yc3 5 _ rfl
  have u3_6 := yc3 6 _ rfl
  have v3_0 := yf3 0
  have v3_1 := yf3 1
  have v3_2 := yf3 2
  have v3_3 := yf3 3
  have v3_4 := yf3 4
  have v3_5 := yf3 5
  have v3_6 := yf3 6
  simp only [Nat.zero_add] at u3_0 u3_1 u3_2 u3_3 u3_4 u3_5 u3_6
  go_wp2_with fail
  have hkk : ∀ W, Kpt [w.heap.size, w1.heap.size] w3 W -> Src W C s3 /\ Fs C w W := fun W k => ⟨hs3.kpt k (fun x hx => by simp; omega), Fs.fin F3 (fun x hx => by simp at hx; omega) k⟩
  refine bodyPost_ret (v := .agg (insC ((n1 : Int), (0 : Int), (0 : Int), es, n3, es, es)).toArray) (by simp [results, Tryz.results147, go_sem, insC, es, y3_0, y3_1, y3_2, y3_3, y3_4, y3_5, y3_6, u3_0, u3_1, u3_2, u3_3, u3_4, u3_5, u3_6]) rfl ⟨_, ((n1 : Int), (0 : Int), (0 : Int), es, n3, es, es), s3, rfl, rfl, ?_, took_pb HT1.out ?_, ?_, ?_⟩
  ·refine ⟨⟨?_, ?_, ?_, ?_⟩, ?_, ?_⟩ <;> simp only [es] <;> first | omega | decide
  ·rw [<- show pUse C.L n1 = pUse C.L n1 from rfl]; have hq := HP.out; first | (rw [show pUse C.L n1 = p from HQ.out, hq]; exact took_map HT3.out) | skip
  ·exact (hkk _ (Kpt.snoc (Kpt.snoc (Kpt.snoc (Kpt.snoc (Kpt.snoc (Kpt.snoc (Kpt.snoc (Kpt.snoc (Kpt.refl _ _) (by simp)) (by simp)) (by simp)) (by simp)) (by simp)) (by simp)) (by simp)) (by simp))).1
  ·exact (hkk _ (Kpt.snoc (Kpt.snoc (Kpt.snoc (Kpt.snoc (Kpt.snoc (Kpt.snoc (Kpt.snoc (Kpt.snoc (Kpt.refl _ _) (by simp)) (by simp)) (by simp)) (by simp)) (by simp)) (by simp)) (by simp)) (by simp))).2
end Go.Proofs.YtijnimjmimeefaaGreat.A
namespace Go.Proofs.YtijnimjmimeefaaGreat.A
open Go.RowKit Go.Proofs.YtijnimjmimeefaaGreat.D Go.Proofs.YtijnimjmimeefaaGreat.O
theorem method_s (C : Cx) (hB0 : 0 < C.B) (s0 : St) (w : World) (h : Src w C s0) (hg : Glob w) : Calls Tryz.prog 103 #[.pointer (some ⟨C.sb, 0, none⟩)] w (TookX C mP gM (pMth C.L) s0 w) := by
 have hb0 : Below w.heap.size w (w.alloc (.cells #[.string ⟨#[]⟩, .slice none 0 0, .int .i64 0, .string ⟨#[]⟩, .bool false, .bool false, .int .i64 0, .slice none 0 0, .slice none 0 0] 59)) := ((Below.refl _ _).alloc (Nat.le_refl _) _)
 have hs0 := h.below hb0
 have ht := h.top
 have hx0 : (w.alloc (.cells #[.string ⟨#[]⟩, .slice none 0 0, .int .i64 0, .string ⟨#[]⟩, .bool false, .bool false, .int .i64 0, .slice none 0 0, .slice none 0 0] 59)).heap[w.heap.size]? = some (.cells #[.string ⟨#[]⟩, .slice none 0 0, .int .i64 0, .string ⟨#[]⟩, .bool false, .bool false, .int .i64 0, .slice none 0 0, .slice none 0 0] 59 (0, 0)) := heap_alloc_new _ _
 have F0 : Fs C w (w.alloc (.cells #[.string ⟨#[]⟩, .slice none 0 0, .int .i64 0, .string ⟨#[]⟩, .bool false, .bool false, .int .i64 0, .slice none 0 0, .slice none 0 0] 59)) := .of_below hb0
 obtain ⟨q1, q2, c0, c1, f2⟩ := hs0.cells
 obtain ⟨-, b0, -⟩ := boxN hx0
 go_enter Tryz.func103, Tryz.ntmps103
 go_wp2_with fail
 refine (text_s C s0 _ hs0).mono ?_
 rintro r w1 ⟨n1, s1, rfl, hn1, t1, hs1, hf1⟩
 have hx1 := hf1.box hs0 ht hx0
 have HT1 := hid t1
 have F1 := F0.trans hf1
 clear t1
 obtain ⟨q1_1, q2_1, c0_1, c1_1, f2_1⟩ := hs1.cells
 obtain ⟨hl1, hcs1, hfz1⟩ := boxN hx1
 have y1_0 := hcs1 0 _ rfl
 have y1_1 := hcs1 1 _ rfl
 have y1_2 := hcs1 2 _ rfl
 have y1_3 := hcs1 3 _ rfl
 have y1_4 := hcs1 4 _ rfl
 have y1_5 := hcs1 5 _ rfl
 have y1_6 := hcs1 6 _ rfl
 have y1_7 := hcs1 7 _ rfl
 have y1_8 := hcs1 8 _ rfl
 have z1_0 := hfz1 0
 have z1_1 := hfz1 1
 have z1_2 := hfz1 2
 have z1_3 := hfz1 3
 have z1_4 := hfz1 4
 have z1_5 := hfz1 5
 have z1_6 := hfz1 6
 have z1_7 := hfz1 7
 have z1_8 := hfz1 8
 simp only [Nat.zero_add] at y1_0 y1_1 y1_2 y1_3 y1_4 y1_5 y1_6 y1_7 y1_8
 go_wp2_with fail
 refine (text_s C s1 _ hs1).mono ?_
 rintro r w2 ⟨n2, s2, rfl, hn2, t2, hs2, hf2⟩
 have hx2 := hf2.box hs1 ht hx1
 have HT2 := hid t2
 have F2 := F1.trans hf2
 clear t2
 obtain ⟨q1_2, q2_2, c0_2, c1_2, f2_2⟩ := hs2.cells
 obtain ⟨hl2, hcs2, hfz2⟩ := boxN hx2
 have y2_0 := hcs2 0 _ rfl
 have y2_1 := hcs2 1 _ rfl
 have y2_2 := hcs2 2 _ rfl
 have y2_3 := hcs2 3 _ rfl
 have y2_4 := hcs2 4 _ rfl
 have y2_5 := hcs2 5 _ rfl
 have y2_6 := hcs2 6 _ rfl
 have y2_7 := hcs2 7 _ rfl
 have y2_8 := hcs2 8 _ rfl
 have z2_0 := hfz2 0
 have z2_1 := hfz2 1
 have z2_2 := hfz2 2
 have z2_3 := hfz2 3
 have z2_4 := hfz2 4
 have z2_5 := hfz2 5
 have z2_6 := hfz2 6
 have z2_7 := hfz2 7
 have z2_8 := hfz2 8
 simp only [Nat.zero_add] at y2_0 y2_1 y2_2 y2_3 y2_4 y2_5 y2_6 y2_7 y2_8
 obtain ⟨ps, ⟨k, c⟩, ok, hR⟩ : ∃ ps t ok, parseR n2.data.toList = (ps, t, ok) := ⟨_, _, _, rfl⟩
 obtain ⟨hz1, hz2, hz3⟩ := parseR_small hR
 have HZ := hid hz1
 have hz2' : c.size <= 64 := hz2
 clear hz1 hz2
 have HR := hid hR
 go_wp2_with fail
 refine (parse_at hR _ (glob_fs hg F2 hB0 h.low) (by omega)).mono ?_
 rintro e wA ⟨vA, rfl, hoA, hbA⟩
 clear hR
 have hoX := ownX_of_T hoA
 obtain ⟨pA, lA, cA, hvA⟩ := hoX.slice
 subst hvA
 have HOA := hid (hoX.rd (sP.grow _))
 clear hoX hoA
 rw [show tyv (k, c) = .agg #[.int .i64 k, .string c] from rfl]
 obtain ⟨hbB, hyB⟩ := boxT wA k c
 have hty : C.top <= wA.heap.size := Nat.le_trans ht (Nat.le_trans F2.size hbA.size)
 have hs3 := (hs2.below hbA).below hbB
 have hx3 := Below.box hbB (Below.box hbA hx2)
 have hy3 := hyB
 have hne : w.heap.size < wA.heap.size := Nat.lt_of_lt_of_le hl2 hbA.size
 have hnX : w.heap.size < w2.heap.size := hl2
 have htA : C.top <= w2.heap.size := Nat.le_trans ht F2.size
 have F3 := (F2.trans (.of_below hbA)).trans (.of_below hbB)
 obtain ⟨q1_3, q2_3, c0_3, c1_3, f2_3⟩ := hs3.cells
 obtain ⟨hl3, hcs3, hfz3⟩ := boxN hx3
 have y3_0 := hcs3 0 _ rfl
 have y3_1 := hcs3 1 _ rfl
 have y3_2 := hcs3 2 _ rfl
 have y3_3 := hcs3 3 _ rfl
 have y3_4 := hcs3 4 _ rfl
 have y3_5 := hcs3 5 _ rfl
 have y3_6 := hcs3 6 _ rfl
 have y3_7 := hcs3 7 _ rfl
 have y3_8 := hcs3 8 _ rfl
 have z3_0 := hfz3 0
 have z3_1 := hfz3 1
 have z3_2 := hfz3 2
 have z3_3 := hfz3 3
 have z3_4 := hfz3 4
 have z3_5 := hfz3 5
 have z3_6 := hfz3 6
 have z3_7 := hfz3 7
 have z3_8 := hfz3 8
 simp only [Nat.zero_add] at y3_0 y3_1 y3_2 y3_3 y3_4 y3_5 y3_6 y3_7 y3_8
 obtain ⟨yl3, yc3, yf3⟩ := boxN hy3
 have u3_0 := yc3 0 _ rfl
 have u3_1 := yc3 1 _ rfl
 have v3_0 := yf3 0
 have v3_1 := yf3 1
 simp only [Nat.zero_add] at u3_0 u3_1
 go_wp2_with fail
 refine (num_s C s2 3 _ _ hs3 (by rfl) (by decide)).mono ?_
 rintro r w4 ⟨n4, s4, rfl, hn4, t4, hs4, hf4⟩
 have hx4 := hf4.box hs3 ht hx3
 have HT4 := hid t4
 have F4 := F3.trans hf4
 clear t4
 have hy4 := hf4.box hs3 hty hy3
 obtain ⟨q1_4, q2_4, c0_4, c1_4, f2_4⟩ := hs4.cells
 obtain ⟨hl4, hcs4, hfz4⟩ := boxN hx4
 have y4_0 := hcs4 0 _ rfl
 have y4_1 := hcs4 1 _ rfl
 have y4_2 := hcs4 2 _ rfl
 have y4_3 := hcs4 3 _ rfl
 have y4_4 := hcs4 4 _ rfl
 have y4_5 := hcs4 5 _ rfl
 have y4_6 := hcs4 6 _ rfl
 have y4_7 := hcs4 7 _ rfl
 have y4_8 := hcs4 8 _ rfl
 have z4_0 := hfz4 0
 have z4_1 := hfz4 1
 have z4_2 := hfz4 2
 have z4_3 := hfz4 3
 have z4_4 := hfz4 4
 have z4_5 := hfz4 5
 have z4_6 := hfz4 6
 have z4_7 := hfz4 7
 have z4_8 := hfz4 8
 simp only [Nat.zero_add] at y4_0 y4_1 y4_2 y4_3 y4_4 y4_5 y4_6 y4_7 y4_8
 obtain ⟨yl4, yc4, yf4⟩ := boxN hy4
 have u4_0 := yc4 0 _ rfl
 have u4_1 := yc4 1 _ rfl
 have v4_0 := yf4 0
 have v4_1 := yf4 1
 simp only [Nat.zero_add] at u4_0 u4_1
 have hc4 : n4 = 0 ∨ n4 = 1 ∨ n4 = 2 ∨ n4 = 3 := by omega
 have HPA : Hid (RdX 2 (sP tyC) (fun x => w2.heap.size <= x) w4 (.slice pA lA cA) ps) := hid ((HOA.out.step (sP.grow _) (fun _ h _ => h) (.of_below hbB) hbB.size).fs (sP.grow _) hf4 hs3 htA)
 have HCZ : Hid (c.size <= 64) := hid hz2'
 rcases hc4 with hc4 | hc4 | hc4 | hc4
 ·subst hc4
  have hA : bits BinOp.and IntKind.i64 0 1 = 0 := by decide
  have hB : bits BinOp.and IntKind.i64 0 2 = 0 := by decide
  rw [show ((0 : Nat) : Int) = 0 from rfl]
  have hcast : ((0 : Nat) : Int) = 0 := rfl
  go_wp2_with fail
  refine wp_region_held_drew (S := fun w' => w'.cell? ⟨C.sb, 0, none⟩ = some (.pointer (some ⟨C.rb, 0, none⟩)) /\ w'.cell? ⟨wA.heap.size, 0, none⟩ = some (.int .i64 k) /\ w'.cell? ⟨wA.heap.size, 1, none⟩ = some (.string c)) (by kernel_rfl) ⟨c0_4, u4_0, u4_1⟩ (fun hh => ?_)
  refine tkA 0 _ hh ?_
  try go_frame
  refine tkA 1 _ hh ?_
  try go_frame
  refine tkB 2 _ hh ?_
  try go_frame
  refine tkA 3 _ hh ?_
  try go_frame
  refine tkA 4 _ hh ?_
  try go_frame
  refine tkA 5 _ hh ?_
  try go_frame
  refine tkA 6 _ hh ?_
  try go_frame
  refine tkA 7 _ hh ?_
  try go_frame
  refine tkA 8 _ hh ?_
  try go_frame
  refine tkA 9 _ hh ?_
  try go_frame
  refine tkA 10 _ hh ?_
  try go_frame
  refine tkA 11 _ hh ?_
  try go_frame
  refine tkB 12 _ hh ?_
  try go_frame
  refine tkA 14 _ hh ?_
  try go_frame
  refine tkA 16 _ hh ?_
  try go_frame
  refine rdH [13] ?_
  refine rcH (fun K hK => ?_) AllReadyH.nil
  clear hh
  go_simp
  refine (num_s C s4 200 _ _ hs4.drew (by rfl) (by decide)).mono ?_
  rintro r w5 ⟨n5, s5, rfl, hn5, t5, hs5, hf5⟩
  replace hf5 := (Fs.drew C w4).trans hf5
  have hx5 := hf5.box hs4 ht hx4
  have HT5 := hid t5
  have F5 := F4.trans hf5
  clear t5
  have hy5 := hf5.box hs4 hty hy4
  obtain ⟨q1_5, q2_5, c0_5, c1_5, f2_5⟩ := hs5.cells
  obtain ⟨hl5, hcs5, hfz5⟩ := boxN hx5
  have y5_0 := hcs5 0 _ rfl
  have y5_1 := hcs5 1 _ rfl
  have y5_2 := hcs5 2 _ rfl
  have y5_3 := hcs5 3 _ rfl
  have y5_4 := hcs5 4 _ rfl
  have y5_5 := hcs5 5 _ rfl
  have y5_6 := hcs5 6 _ rfl
  have y5_7 := hcs5 7 _ rfl
  have y5_8 := hcs5 8 _ rfl
  have z5_0 := hfz5 0
  have z5_1 := hfz5 1
  have z5_2 := hfz5 2
  have z5_3 := hfz5 3
  have z5_4 := hfz5 4
  have z5_5 := hfz5 5
  have z5_6 := hfz5 6
  have z5_7 := hfz5 7
  have z5_8 := hfz5 8
  simp only [Nat.zero_add] at y5_0 y5_1 y5_2 y5_3 y5_4 y5_5 y5_6 y5_7 y5_8
  obtain ⟨yl5, yc5, yf5⟩ := boxN hy5
  have u5_0 := yc5 0 _ rfl
  have u5_1 := yc5 1 _ rfl
  have v5_0 := yf5 0
  have v5_1 := yf5 1
  simp only [Nat.zero_add] at u5_0 u5_1
  refine hK.out _ _ ⟨c0_5, u5_0, u5_1⟩ (fun hh => ?_)
  clear hK K
  try go_frame
  refine rdH [15] ?_
  refine rcH (fun K hK => ?_) AllReadyH.nil
  clear hh
  go_simp
  refine (list_ins C (fun s w h g => instr_s C s w h g) s5 2000 _ hs5 (glob_fs hg F5 hB0 h.low) hB0 (by decide)).mono ?_
  rintro r w6 ⟨vv6, n6, s6, rfl, ho6, hgd6, hn6, t6, hs6, hf6⟩
  obtain ⟨p6, l6, cp6, hv6⟩ := ho6.slice
  subst hv6
  have HO6 := hid ho6
  clear ho6
  have hx6 := hf6.box hs5 ht hx5
  have HT6 := hid t6
  have F6 := F5.trans hf6
  clear t6
  have hy6 := hf6.box hs5 hty hy5
  obtain ⟨q1_6, q2_6, c0_6, c1_6, f2_6⟩ := hs6.cells
  obtain ⟨hl6, hcs6, hfz6⟩ := boxN hx6
  have y6_0 := hcs6 0 _ rfl
  have y6_1 := hcs6 1 _ rfl
  have y6_2 := hcs6 2 _ rfl
  have y6_3 := hcs6 3 _ rfl
  have y6_4 := hcs6 4 _ rfl
  have y6_5 := hcs6 5 _ rfl
  have y6_6 := hcs6 6 _ rfl
  have y6_7 := hcs6 7 _ rfl
  have y6_8 := hcs6 8 _ rfl
  have z6_0 := hfz6 0
  have z6_1 := hfz6 1
  have z6_2 := hfz6 2
  have z6_3 := hfz6 3
  have z6_4 := hfz6 4
  have z6_5 := hfz6 5
  have z6_6 := hfz6 6
  have z6_7 := hfz6 7
  have z6_8 := hfz6 8
  simp only [Nat.zero_add] at y6_0 y6_1 y6_2 y6_3 y6_4 y6_5 y6_6 y6_7 y6_8
  obtain ⟨yl6, yc6, yf6⟩ := boxN hy6
  have u6_0 := yc6 0 _ rfl
  have u6_1 := yc6 1 _ rfl
  have v6_0 := yf6 0
  have v6_1 := yf6 1
  simp only [Nat.zero_add] at u6_0 u6_1
  refine hK.out _ _ ⟨c0_6, u6_0, u6_1⟩ (fun hh => ?_)
  clear hK K
  try go_frame
  refine rdH [17] ?_
  refine rcH (fun K hK => ?_) AllReadyH.nil
  clear hh
  go_simp
  refine (list_hnd C (fun s w h g => handler_s C s w h g) s6 50 _ hs6 (glob_fs hg F6 hB0 h.low) hB0 (by decide)).mono ?_
  rintro r w7 ⟨vv7, n7, s7, rfl, ho7, hgd7, hn7, t7, hs7, hf7⟩
  obtain ⟨p7, l7, cp7, hv7⟩ := ho7.slice
  subst hv7
  have HO7 := hid ho7
  clear ho7
  have hx7 := hf7.box hs6 ht hx6
  have HT7 := hid t7
  have F7 := F6.trans hf7
  clear t7
  have hy7 := hf7.box hs6 hty hy6
  obtain ⟨q1_7, q2_7, c0_7, c1_7, f2_7⟩ := hs7.cells
  obtain ⟨hl7, hcs7, hfz7⟩ := boxN hx7
  have y7_0 := hcs7 0 _ rfl
  have y7_1 := hcs7 1 _ rfl
  have y7_2 := hcs7 2 _ rfl
  have y7_3 := hcs7 3 _ rfl
  have y7_4 := hcs7 4 _ rfl
  have y7_5 := hcs7 5 _ rfl
  have y7_6 := hcs7 6 _ rfl
  have y7_7 := hcs7 7 _ rfl
  have y7_8 := hcs7 8 _ rfl
  have z7_0 := hfz7 0
  have z7_1 := hfz7 1
  have z7_2 := hfz7 2
  have z7_3 := hfz7 3
  have z7_4 := hfz7 4
  have z7_5 := hfz7 5
  have z7_6 := hfz7 6
  have z7_7 := hfz7 7
  have z7_8 := hfz7 8
  simp only [Nat.zero_add] at y7_0 y7_1 y7_2 y7_3 y7_4 y7_5 y7_6 y7_7 y7_8
  obtain ⟨yl7, yc7, yf7⟩ := boxN hy7
  have u7_0 := yc7 0 _ rfl
  have u7_1 := yc7 1 _ rfl
  have v7_0 := yf7 0
  have v7_1 := yf7 1
  simp only [Nat.zero_add] at u7_0 u7_1
  refine hK.out _ _ ⟨c0_7, u7_0, u7_1⟩ (fun hh => ?_)
  clear hK K
  try go_frame
  refine tkA 18 _ hh ?_
  try go_frame
  refine rdH [19] ?_
  refine rcH (fun K hK => ?_) AllReadyH.nil
  clear hh
  go_simp
  have hSrc := fun {x0 x1 x2 x3 x4 x5 x6 x7 x8 : Value} => hs7.kpt (set9 (v0 := x0) (v1 := x1) (v2 := x2) (v3 := x3) (v4 := x4) (v5 := x5) (v6 := x6) (v7 := x7) (v8 := x8) hx7).2 (fun x hx => by simp; omega)
  have hY := fun {x0 x1 x2 x3 x4 x5 x6 x7 x8 : Value} => boxN (((set9 (v0 := x0) (v1 := x1) (v2 := x2) (v3 := x3) (v4 := x4) (v5 := x5) (v6 := x6) (v7 := x7) (v8 := x8) hx7).2.2 _ yl7 (by simp; omega)).trans hy7)
  refine hK.out _ _ ⟨hSrc.cells.2.2.1, hY.2.1 0 _ rfl, hY.2.1 1 _ rfl⟩ (fun hh => ?_)
  clear hK K
  try go_frame
  refine wpAnyH_done (by kernel_rfl) ?_ _
  go_wp2_with fail
  have hk := fun {x0 x1 x2 x3 x4 x5 x6 x7 x8 : Value} => (set9 (v0 := x0) (v1 := x1) (v2 := x2) (v3 := x3) (v4 := x4) (v5 := x5) (v6 := x6) (v7 := x7) (v8 := x8) hx7).2
  obtain ⟨ep, ecp, hep, -⟩ := HPA.out.len
  obtain ⟨ei, eci, hei, -⟩ := (HO6.out.rd (sP.grow _)).len
  obtain ⟨eh, ech, heh, -⟩ := (HO7.out.rd (sP.grow _)).len
  refine bodyPost_ret (v := .agg #[.string n1, .slice pA lA cA, .int .i64 k, .string c, .bool false, .bool false, .int .i64 (n5 : Int), .slice p6 l6 cp6, .slice p7 l7 cp7]) (by simp [results, Tryz.results103, go_sem, y7_0, y7_1, y7_2, y7_3, y7_4, y7_5, y7_6, y7_7, y7_8]) rfl ⟨[.string n1, .slice pA lA cA, .int .i64 k, .string c, .bool false, .bool false, .int .i64 (n5 : Int), .slice p6 l6 cp6, .slice p7 l7 cp7], (⟨n1, ps, (k, c), false, false, (n5 : Int), n6, n7⟩ : Mth), s7, rfl, ?_, ?_, took_pb HT1.out (took_pb HT2.out ?_), hSrc, ?_⟩
  ·refine ⟨_, _, _, rfl, ?_, ?_, ?_⟩
   ·exact (((HPA.out.fs (sP.grow _) hf5 hs4 htA).fs (sP.grow _) hf6 hs5 htA).fs (sP.grow _) hf7 hs6 htA).fin (sP.grow _) hk hnX (Nat.le_of_lt hnX)
   ·exact ((HO6.out.rd (sP.grow _)).fs (sP.grow _) hf7 hs6 (Nat.le_trans ht F5.size)).fin (sP.grow _) hk hl5 F5.size
   ·exact (HO7.out.rd (sP.grow _)).fin (sP.grow _) hk hl6 F6.size
  ·refine ⟨⟨(show n1.size <= 100000 by omega), fun t ht => (show t.2.size <= 100000 by have := HZ.out t ht; omega), (show c.size <= 100000 by have := HCZ.out; omega), fun x hx => (hgd6 x hx).1, fun x hx => hgd7 x hx⟩, fun x hx => (hgd6 x hx).2⟩
  ·rw [HR.out]; exact took_pb HT4.out (took_pb HT5.out (took_pb HT6.out (took_map (g := fun h => (⟨n1, ps, (k, c), _, _, (n5 : Int), n6, h⟩ : Mth)) HT7.out)))
  ·exact Fs.fin F7 (fun x hx => by simp at hx; omega) hk
 ·subst hc4
  have hA : bits BinOp.and IntKind.i64 1 1 = 1 := by decide
  have hB : bits BinOp.and IntKind.i64 1 2 = 0 := by decide
  rw [show ((1 : Nat) : Int) = 1 from rfl]
  have hcast : ((1 : Nat) : Int) = 1 := rfl
  go_wp2_with fail
  refine wp_region_held_drew (S := fun w' => w'.cell? ⟨C.sb, 0, none⟩ = some (.pointer (some ⟨C.rb, 0, none⟩)) /\ w'.cell? ⟨wA.heap.size, 0, none⟩ = some (.int .i64 k) /\ w'.cell? ⟨wA.heap.size, 1, none⟩ = some (.string c)) (by kernel_rfl) ⟨c0_4, u4_0, u4_1⟩ (fun hh => ?_)
  refine tkA 0 _ hh ?_
  try go_frame
  refine tkA 1 _ hh ?_
  try go_frame
  refine tkB 2 _ hh ?_
  try go_frame
  refine tkA 3 _ hh ?_
  try go_frame
  refine tkA 4 _ hh ?_
  try go_frame
  refine tkA 5 _ hh ?_
  try go_frame
  refine tkA 6 _ hh ?_
  try go_frame
  refine tkA 7 _ hh ?_
  try go_frame
  refine tkA 8 _ hh ?_
  try go_frame
  refine tkA 9 _ hh ?_
  try go_frame
  refine tkA 10 _ hh ?_
  try go_frame
  refine tkA 11 _ hh ?_
  try go_frame
  refine tkB 12 _ hh ?_
  try go_frame
  refine tkA 14 _ hh ?_
  try go_frame
  refine tkA 16 _ hh ?_
  try go_frame
  refine rdH [13] ?_
  refine rcH (fun K hK => ?_) AllReadyH.nil
  clear hh
  go_simp
  refine (num_s C s4 200 _ _ hs4.drew (by rfl) (by decide)).mono ?_
  rintro r w5 ⟨n5, s5, rfl, hn5, t5, hs5, hf5⟩
  replace hf5 := (Fs.drew C w4).trans hf5
  have hx5 := hf5.box hs4 ht hx4
  have HT5 := hid t5
  have F5 := F4.trans hf5
  clear t5
  have hy5 := hf5.box hs4 hty hy4
  obtain ⟨q1_5, q2_5, c0_5, c1_5, f2_5⟩ := hs5.cells
  obtain ⟨hl5, hcs5, hfz5⟩ := boxN hx5
  have y5_0 := hcs5 0 _ rfl
  have y5_1 := hcs5 1 _ rfl
  have y5_2 := hcs5 2 _ rfl
  have y5_3 := hcs5 3 _ rfl
  have y5_4 := hcs5 4 _ rfl
  have y5_5 := hcs5 5 _ rfl
  have y5_6 := hcs5 6 _ rfl
  have y5_7 := hcs5 7 _ rfl
  have y5_8 := hcs5 8 _ rfl
  have z5_0 := hfz5 0
  have z5_1 := hfz5 1
  have z5_2 := hfz5 2
  have z5_3 := hfz5 3
  have z5_4 := hfz5 4
  have z5_5 := hfz5 5
  have z5_6 := hfz5 6
  have z5_7 := hfz5 7
  have z5_8 := hfz5 8
  simp only [Nat.zero_add] at y5_0 y5_1 y5_2 y5_3 y5_4 y5_5 y5_6 y5_7 y5_8
  obtain ⟨yl5, yc5, yf5⟩ := boxN hy5
  have u5_0 := yc5 0 _ rfl
  have u5_1 := yc5 1 _ rfl
  have v5_0 := yf5 0
  have v5_1 := yf5 1
  simp only [Nat.zero_add] at u5_0 u5_1
  refine hK.out _ _ ⟨c0_5, u5_0, u5_1⟩ (fun hh => ?_)
  clear hK K
  try go_frame
  refine rdH [15] ?_
  refine rcH (fun K hK => ?_) AllReadyH.nil
  clear hh
  go_simp
  refine (list_ins C (fun s w h g => instr_s C s w h g) s5 2000 _ hs5 (glob_fs hg F5 hB0 h.low) hB0 (by decide)).mono ?_
  rintro r w6 ⟨vv6, n6, s6, rfl, ho6, hgd6, hn6, t6, hs6, hf6⟩
  obtain ⟨p6, l6, cp6, hv6⟩ := ho6.slice
  subst hv6
  have HO6 := hid ho6
  clear ho6
  have hx6 := hf6.box hs5 ht hx5
  have HT6 := hid t6
  have F6 := F5.trans hf6
  clear t6
  have hy6 := hf6.box hs5 hty hy5
  obtain ⟨q1_6, q2_6, c0_6, c1_6, f2_6⟩ := hs6.cells
  obtain ⟨hl6, hcs6, hfz6⟩ := boxN hx6
  have y6_0 := hcs6 0 _ rfl
  have y6_1 := hcs6 1 _ rfl
  have y6_2 := hcs6 2 _ rfl
  have y6_3 := hcs6 3 _ rfl
  have y6_4 := hcs6 4 _ rfl
  have y6_5 := hcs6 5 _ rfl
  have y6_6 := hcs6 6 _ rfl
  have y6_7 := hcs6 7 _ rfl
  have y6_8 := hcs6 8 _ rfl
  have z6_0 := hfz6 0
  have z6_1 := hfz6 1
  have z6_2 := hfz6 2
  have z6_3 := hfz6 3
  have z6_4 := hfz6 4
  have z6_5 := hfz6 5
  have z6_6 := hfz6 6
  have z6_7 := hfz6 7
  have z6_8 := hfz6 8
  simp only [Nat.zero_add] at y6_0 y6_1 y6_2 y6_3 y6_4 y6_5 y6_6 y6_7 y6_8
  obtain ⟨yl6, yc6, yf6⟩ := boxN hy6
  have u6_0 := yc6 0 _ rfl
  have u6_1 := yc6 1 _ rfl
  have v6_0 := yf6 0
  have v6_1 := yf6 1
  simp only [Nat.zero_add] at u6_0 u6_1
  refine hK.out _ _ ⟨c0_6, u6_0, u6_1⟩ (fun hh => ?_)
  clear hK K
  try go_frame
  refine rdH [17] ?_
  refine rcH (fun K hK => ?_) AllReadyH.nil
  clear hh
  go_simp
  refine (list_hnd C (fun s w h g => handler_s C s w h g) s6 50 _ hs6 (glob_fs hg F6 hB0 h.low) hB0 (by decide)).mono ?_
  rintro r w7 ⟨vv7, n7, s7, rfl, ho7, hgd7, hn7, t7, hs7, hf7⟩
  obtain ⟨p7, l7, cp7, hv7⟩ := ho7.slice
  subst hv7
  have HO7 := hid ho7
  clear ho7
  have hx7 := hf7.box hs6 ht hx6
  have HT7 := hid t7
  have F7 := F6.trans hf7
  clear t7
  have hy7 := hf7.box hs6 hty hy6
  obtain ⟨q1_7, q2_7, c0_7, c1_7, f2_7⟩ := hs7.cells
  obtain ⟨hl7, hcs7, hfz7⟩ := boxN hx7
  have y7_0 := hcs7 0 _ rfl
  have y7_1 := hcs7 1 _ rfl
  have y7_2 := hcs7 2 _ rfl
  have y7_3 := hcs7 3 _ rfl
  have y7_4 := hcs7 4 _ rfl
  have y7_5 := hcs7 5 _ rfl
  have y7_6 := hcs7 6 _ rfl
  have y7_7 := hcs7 7 _ rfl
  have y7_8 := hcs7 8 _ rfl
  have z7_0 := hfz7 0
  have z7_1 := hfz7 1
  have z7_2 := hfz7 2
  have z7_3 := hfz7 3
  have z7_4 := hfz7 4
  have z7_5 := hfz7 5
  have z7_6 := hfz7 6
  have z7_7 := hfz7 7
  have z7_8 := hfz7 8
  simp only [Nat.zero_add] at y7_0 y7_1 y7_2 y7_3 y7_4 y7_5 y7_6 y7_7 y7_8
  obtain ⟨yl7, yc7, yf7⟩ := boxN hy7
  have u7_0 := yc7 0 _ rfl
  have u7_1 := yc7 1 _ rfl
  have v7_0 := yf7 0
  have v7_1 := yf7 1
  simp only [Nat.zero_add] at u7_0 u7_1
  refine hK.out _ _ ⟨c0_7, u7_0, u7_1⟩ (fun hh => ?_)
  clear hK K
  try go_frame
  refine tkA 18 _ hh ?_
  try go_frame
  refine rdH [19] ?_
  refine rcH (fun K hK => ?_) AllReadyH.nil
  clear hh
  go_simp
  have hSrc := fun {x0 x1 x2 x3 x4 x5 x6 x7 x8 : Value} => hs7.kpt (set9 (v0 := x0) (v1 := x1) (v2 := x2) (v3 := x3) (v4 := x4) (v5 := x5) (v6 := x6) (v7 := x7) (v8 := x8) hx7).2 (fun x hx => by simp; omega)
  have hY := fun {x0 x1 x2 x3 x4 x5 x6 x7 x8 : Value} => boxN (((set9 (v0 := x0) (v1 := x1) (v2 := x2) (v3 := x3) (v4 := x4) (v5 := x5) (v6 := x6) (v7 := x7) (v8 := x8) hx7).2.2 _ yl7 (by simp; omega)).trans hy7)
  refine hK.out _ _ ⟨hSrc.cells.2.2.1, hY.2.1 0 _ rfl, hY.2.1 1 _ rfl⟩ (fun hh => ?_)
  clear hK K
  try go_frame
  refine wpAnyH_done (by kernel_rfl) ?_ _
  go_wp2_with fail
  have hk := fun {x0 x1 x2 x3 x4 x5 x6 x7 x8 : Value} => (set9 (v0 := x0) (v1 := x1) (v2 := x2) (v3 := x3) (v4 := x4) (v5 := x5) (v6 := x6) (v7 := x7) (v8 := x8) hx7).2
  obtain ⟨ep, ecp, hep, -⟩ := HPA.out.len
  obtain ⟨ei, eci, hei, -⟩ := (HO6.out.rd (sP.grow _)).len
  obtain ⟨eh, ech, heh, -⟩ := (HO7.out.rd (sP.grow _)).len
  refine bodyPost_ret (v := .agg #[.string n1, .slice pA lA cA, .int .i64 k, .string c, .bool true, .bool false, .int .i64 (n5 : Int), .slice p6 l6 cp6, .slice p7 l7 cp7]) (by simp [results, Tryz.results103, go_sem, y7_0, y7_1, y7_2, y7_3, y7_4, y7_5, y7_6, y7_7, y7_8]) rfl ⟨[.string n1, .slice pA lA cA, .int .i64 k, .string c, .bool true, .bool false, .int .i64 (n5 : Int), .slice p6 l6 cp6, .slice p7 l7 cp7], (⟨n1, ps, (k, c), true, false, (n5 : Int), n6, n7⟩ : Mth), s7, rfl, ?_, ?_, took_pb HT1.out (took_pb HT2.out ?_), hSrc, ?_⟩
  ·refine ⟨_, _, _, rfl, ?_, ?_, ?_⟩
   ·exact (((HPA.out.fs (sP.grow _) hf5 hs4 htA).fs (sP.grow _) hf6 hs5 htA).fs (sP.grow _) hf7 hs6 htA).fin (sP.grow _) hk hnX (Nat.le_of_lt hnX)
   ·exact ((HO6.out.rd (sP.grow _)).fs (sP.grow _) hf7 hs6 (Nat.le_trans ht F5.size)).fin (sP.grow _) hk hl5 F5.size
   ·exact (HO7.out.rd (sP.grow _)).fin (sP.grow _) hk hl6 F6.size
  ·refine ⟨⟨(show n1.size <= 100000 by omega), fun t ht => (show t.2.size <= 100000 by have := HZ.out t ht; omega), (show c.size <= 100000 by have := HCZ.out; omega), fun x hx => (hgd6 x hx).1, fun x hx => hgd7 x hx⟩, fun x hx => (hgd6 x hx).2⟩
  ·rw [HR.out]; exact took_pb HT4.out (took_pb HT5.out (took_pb HT6.out (took_map (g := fun h => (⟨n1, ps, (k, c), _, _, (n5 : Int), n6, h⟩ : Mth)) HT7.out)))
  ·exact Fs.fin F7 (fun x hx => by simp at hx; omega) hk
 ·subst hc4
  have hA : bits BinOp.and IntKind.i64 2 1 = 0 := by decide
  have hB : bits BinOp.and IntKind.i64 2 2 = 2 := by decide
  rw [show ((2 : Nat) : Int) = 2 from rfl]
  have hcast : ((2 : Nat) : Int) = 2 := rfl
  go_wp2_with fail
  refine wp_region_held_drew (S := fun w' => w'.cell? ⟨C.sb, 0, none⟩ = some (.pointer (some ⟨C.rb, 0, none⟩)) /\ w'.cell? ⟨wA.heap.size, 0, none⟩ = some (.int .i64 k) /\ w'.cell? ⟨wA.heap.size, 1, none⟩ = some (.string c)) (by kernel_rfl) ⟨c0_4, u4_0, u4_1⟩ (fun hh => ?_)
  refine tkA 0 _ hh ?_
  try go_frame
  refine tkA 1 _ hh ?_
  try go_frame
  refine tkB 2 _ hh ?_
  try go_frame
  refine tkA 3 _ hh ?_
  try go_frame
  refine tkA 4 _ hh ?_
  try go_frame
  refine tkA 5 _ hh ?_
  try go_frame
  refine tkA 6 _ hh ?_
  try go_frame
  refine tkA 7 _ hh ?_
  try go_frame
  refine tkA 8 _ hh ?_
  try go_frame
  refine tkA 9 _ hh ?_
  try go_frame
  refine tkA 10 _ hh ?_
  try go_frame
  refine tkA 11 _ hh ?_
  try go_frame
  refine tkB 12 _ hh ?_
  try go_frame
  refine tkA 14 _ hh ?_
  try go_frame
  refine tkA 16 _ hh ?_
  try go_frame
  refine rdH [13] ?_
  refine rcH (fun K hK => ?_) AllReadyH.nil
  clear hh
  go_simp
  refine (num_s C s4 200 _ _ hs4.drew (by rfl) (by decide)).mono ?_
  rintro r w5 ⟨n5, s5, rfl, hn5, t5, hs5, hf5⟩
  replace hf5 := (Fs.drew C w4).trans hf5
  have hx5 := hf5.box hs4 ht hx4
  have HT5 := hid t5
  have F5 := F4.trans hf5
  clear t5
  have hy5 := hf5.box hs4 hty hy4
  obtain ⟨q1_5, q2_5, c0_5, c1_5, f2_5⟩ := hs5.cells
  obtain ⟨hl5, hcs5, hfz5⟩ := boxN hx5
  have y5_0 := hcs5 0 _ rfl
  have y5_1 := hcs5 1 _ rfl
  have y5_2 := hcs5 2 _ rfl
  have y5_3 := hcs5 3 _ rfl
  have y5_4 := hcs5 4 _ rfl
  have y5_5 := hcs5 5 _ rfl
  have y5_6 := hcs5 6 _ rfl
  have y5_7 := hcs5 7 _ rfl
  have y5_8 := hcs5 8 _ rfl
  have z5_0 := hfz5 0
  have z5_1 := hfz5 1
  have z5_2 := hfz5 2
  have z5_3 := hfz5 3
  have z5_4 := hfz5 4
  have z5_5 := hfz5 5
  have z5_6 := hfz5 6
  have z5_7 := hfz5 7
  have z5_8 := hfz5 8
  simp only [Nat.zero_add] at y5_0 y5_1 y5_2 y5_3 y5_4 y5_5 y5_6 y5_7 y5_8
  obtain ⟨yl5, yc5, yf5⟩ := boxN hy5
  have u5_0 := yc5 0 _ rfl
  have u5_1 := yc5 1 _ rfl
  have v5_0 := yf5 0
  have v5_1 := yf5 1
  simp only [Nat.zero_add] at u5_0 u5_1
  refine hK.out _ _ ⟨c0_5, u5_0, u5_1⟩ (fun hh => ?_)
  clear hK K
  try go_frame
  refine rdH [15] ?_
  refine rcH (fun K hK => ?_) AllReadyH.nil
  clear hh
  go_simp
  refine (list_ins C (fun s w h g => instr_s C s w h g) s5 2000 _ hs5 (glob_fs hg F5 hB0 h.low) hB0 (by decide)).mono ?_
  rintro r w6 ⟨vv6, n6, s6, rfl, ho6, hgd6, hn6, t6, hs6, hf6⟩
  obtain ⟨p6, l6, cp6, hv6⟩ := ho6.slice
  subst hv6
  have HO6 := hid ho6
  clear ho6
  have hx6 := hf6.box hs5 ht hx5
  have HT6 := hid t6
  have F6 := F5.trans hf6
  clear t6
  have hy6 := hf6.box hs5 hty hy5
  obtain ⟨q1_6, q2_6, c0_6, c1_6, f2_6⟩ := hs6.cells
  obtain ⟨hl6, hcs6, hfz6⟩ := boxN hx6
  have y6_0 := hcs6 0 _ rfl
  have y6_1 := hcs6 1 _ rfl
  have y6_2 := hcs6 2 _ rfl
  have y6_3 := hcs6 3 _ rfl
  have y6_4 := hcs6 4 _ rfl
  have y6_5 := hcs6 5 _ rfl
  have y6_6 := hcs6 6 _ rfl
  have y6_7 := hcs6 7 _ rfl
  have y6_8 := hcs6 8 _ rfl
  have z6_0 := hfz6 0
  have z6_1 := hfz6 1
  have z6_2 := hfz6 2
  have z6_3 := hfz6 3
  have z6_4 := hfz6 4
  have z6_5 := hfz6 5
  have z6_6 := hfz6 6
  have z6_7 := hfz6 7
  have z6_8 := hfz6 8
  simp only [Nat.zero_add] at y6_0 y6_1 y6_2 y6_3 y6_4 y6_5 y6_6 y6_7 y6_8
  obtain ⟨yl6, yc6, yf6⟩ := boxN hy6
  have u6_0 := yc6 0 _ rfl
  have u6_1 := yc6 1 _ rfl
  have v6_0 := yf6 0
  have v6_1 := yf6 1
  simp only [Nat.zero_add] at u6_0 u6_1
  refine hK.out _ _ ⟨c0_6, u6_0, u6_1⟩ (fun hh => ?_)
  clear hK K
  try go_frame
  refine rdH [17] ?_
  refine rcH (fun K hK => ?_) AllReadyH.nil
  clear hh
  go_simp
  refine (list_hnd C (fun s w h g => handler_s C s w h g) s6 50 _ hs6 (glob_fs hg F6 hB0 h.low) hB0 (by decide)).mono ?_
  rintro r w7 ⟨vv7, n7, s7, rfl, ho7, hgd7, hn7, t7, hs7, hf7⟩
  obtain ⟨p7, l7, cp7, hv7⟩ := ho7.slice
  subst hv7
  have HO7 := hid ho7
  clear ho7
  have hx7 := hf7.box hs6 ht hx6
  have HT7 := hid t7
  have F7 := F6.trans hf7
  clear t7
  have hy7 := hf7.box hs6 hty hy6
  obtain ⟨q1_7, q2_7, c0_7, c1_7, f2_7⟩ := hs7.cells
  obtain ⟨hl7, hcs7, hfz7⟩ := boxN hx7
  have y7_0 := hcs7 0 _ rfl
  have y7_1 := hcs7 1 _ rfl
  have y7_2 := hcs7 2 _ rfl
  have y7_3 := hcs7 3 _ rfl
  have y7_4 := hcs7 4 _ rfl
  have y7_5 := hcs7 5 _ rfl
  have y7_6 := hcs7 6 _ rfl
  have y7_7 := hcs7 7 _ rfl
  have y7_8 := hcs7 8 _ rfl
  have z7_0 := hfz7 0
  have z7_1 := hfz7 1
  have z7_2 := hfz7 2
  have z7_3 := hfz7 3
  have z7_4 := hfz7 4
  have z7_5 := hfz7 5
  have z7_6 := hfz7 6
  have z7_7 := hfz7 7
  have z7_8 := hfz7 8
  simp only [Nat.zero_add] at y7_0 y7_1 y7_2 y7_3 y7_4 y7_5 y7_6 y7_7 y7_8
  obtain ⟨yl7, yc7, yf7⟩ := boxN hy7
  have u7_0 := yc7 0 _ rfl
  have u7_1 := yc7 1 _ rfl
  have v7_0 := yf7 0
  have v7_1 := yf7 1
  simp only [Nat.zero_add] at u7_0 u7_1
  refine hK.out _ _ ⟨c0_7, u7_0, u7_1⟩ (fun hh => ?_)
  clear hK K
  try go_frame
  refine tkA 18 _ hh ?_
  try go_frame
  refine rdH [19] ?_
  refine rcH (fun K hK => ?_) AllReadyH.nil
  clear hh
  go_simp
  have hSrc := fun {x0 x1 x2 x3 x4 x5 x6 x7 x8 : Value} => hs7.kpt (set9 (v0 := x0) (v1 := x1) (v2 := x2) (v3 := x3) (v4 := x4) (v5 := x5) (v6 := x6) (v7 := x7) (v8 := x8) hx7).2 (fun x hx => by simp; omega)
  have hY := fun {x0 x1 x2 x3 x4 x5 x6 x7 x8 : Value} => boxN (((set9 (v0 := x0) (v1 := x1) (v2 := x2) (v3 := x3) (v4 := x4) (v5 := x5) (v6 := x6) (v7 := x7) (v8 := x8) hx7).2.2 _ yl7 (by simp; omega)).trans hy7)
  refine hK.out _ _ ⟨hSrc.cells.2.2.1, hY.2.1 0 _ rfl, hY.2.1 1 _ rfl⟩ (fun hh => ?_)
  clear hK K
  try go_frame
  refine wpAnyH_done (by kernel_rfl) ?_ _
  go_wp2_with fail
  have hk := fun {x0 x1 x2 x3 x4 x5 x6 x7 x8 : Value} => (set9 (v0 := x0) (v1 := x1) (v2 := x2) (v3 := x3) (v4 := x4) (v5 := x5) (v6 := x6) (v7 := x7) (v8 := x8) hx7).2
  obtain ⟨ep, ecp, hep, -⟩ := HPA.out.len
  obtain ⟨ei, eci, hei, -⟩ := (HO6.out.rd (sP.grow _)).len
  obtain ⟨eh, ech, heh, -⟩ := (HO7.out.rd (sP.grow _)).len
  refine bodyPost_ret (v := .agg #[.string n1, .slice pA lA cA, .int .i64 k, .string c, .bool false, .bool true, .int .i64 (n5 : Int), .slice p6 l6 cp6, .slice p7 l7 cp7]) (by simp [results, Tryz.results103, go_sem, y7_0, y7_1, y7_2, y7_3, y7_4, y7_5, y7_6, y7_7, y7_8]) rfl ⟨[.string n1, .slice pA lA cA, .int .i64 k, .string c, .bool false, .bool true, .int .i64 (n5 : Int), .slice p6 l6 cp6, .slice p7 l7 cp7], (⟨n1, ps, (k, c), false, true, (n5 : Int), n6, n7⟩ : Mth), s7, rfl, ?_, ?_, took_pb HT1.out (took_pb HT2.out ?_), hSrc, ?_⟩
  ·refine ⟨_, _, _, rfl, ?_, ?_, ?_⟩
   ·exact (((HPA.out.fs (sP.grow _) hf5 hs4 htA).fs (sP.grow _) hf6 hs5 htA).fs (sP.grow _) hf7 hs6 htA).fin (sP.grow _) hk hnX (Nat.le_of_lt hnX)
   ·exact ((HO6.out.rd (sP.grow _)).fs (sP.grow _) hf7 hs6 (Nat.le_trans ht F5.size)).fin (sP.grow _) hk hl5 F5.size
   ·exact (HO7.out.rd (sP.grow _)).fin (sP.grow _) hk hl6 F6.size
  ·refine ⟨⟨(show n1.size <= 100000 by omega), fun t ht => (show t.2.size <= 100000 by have := HZ.out t ht; omega), (show c.size <= 100000 by have := HCZ.out; omega), fun x hx => (hgd6 x hx).1, fun x hx => hgd7 x hx⟩, fun x hx => (hgd6 x hx).2⟩
  ·rw [HR.out]; exact took_pb HT4.out (took_pb HT5.out (took_pb HT6.out (took_map (g := fun h => (⟨n1, ps, (k, c), _, _, (n5 : Int), n6, h⟩ : Mth)) HT7.out)))
  ·exact Fs.fin F7 (fun x hx => by simp at hx; omega) hk
 ·subst hc4
  have hA : bits BinOp.and IntKind.i64 3 1 = 1 := by decide
  have hB : bits BinOp.and IntKind.i64 3 2 = 2 := by decide
  rw [show ((3 : Nat) : Int) = 3 from rfl]
  have hcast : ((3 : Nat) : Int) = 3 := rfl
  go_wp2_with fail
  refine wp_region_held_drew (S := fun w' => w'.cell? ⟨C.sb, 0, none⟩ = some (.pointer (some ⟨C.rb, 0, none⟩)) /\ w'.cell? ⟨wA.heap.size, 0, none⟩ = some (.int .i64 k) /\ w'.cell? ⟨wA.heap.size, 1, none⟩ = some (.string c)) (by kernel_rfl) ⟨c0_4, u4_0, u4_1⟩ (fun hh => ?_)
  refine tkA 0 _ hh ?_
  try go_frame
  refine tkA 1 _ hh ?_
  try go_frame
  refine tkB 2 _ hh ?_
  try go_frame
  refine tkA 3 _ hh ?_
  try go_frame
  refine tkA 4 _ hh ?_
  try go_frame
  refine tkA 5 _ hh ?_
  try go_frame
  refine tkA 6 _ hh ?_
  try go_frame
  refine tkA 7 _ hh ?_
  try go_frame
  refine tkA 8 _ hh ?_
  try go_frame
  refine tkA 9 _ hh ?_
  try go_frame
  refine tkA 10 _ hh ?_
  try go_frame
  refine tkA 11 _ hh ?_
  try go_frame
  refine tkB 12 _ hh ?_
  try go_frame
  refine tkA 14 _ hh ?_
  try go_frame
  refine tkA 16 _ hh ?_
  try go_frame
  refine rdH [13] ?_
  refine rcH (fun K hK => ?_) AllReadyH.nil
  clear hh
  go_simp
  refine (num_s C s4 200 _ _ hs4.drew (by rfl) (by decide)).mono ?_
  rintro r w5 ⟨n5, s5, rfl, hn5, t5, hs5, hf5⟩
  replace hf5 := (Fs.drew C w4).trans hf5
  have hx5 := hf5.box hs4 ht hx4
  have HT5 := hid t5
  have F5 := F4.trans hf5
  clear t5
  have hy5 := hf5.box hs4 hty hy4
  obtain ⟨q1_5, q2_5, c0_5, c1_5, f2_5⟩ := hs5.cells
  obtain ⟨hl5, hcs5, hfz5⟩ := boxN hx5
  have y5_0 := hcs5 0 _ rfl
  have y5_1 := hcs5 1 _ rfl
  have y5_2 := hcs5 2 _ rfl
  have y5_3 := hcs5 3 _ rfl
  have y5_4 := hcs5 4 _ rfl
  have y5_5 := hcs5 5 _ rfl
  have y5_6 := hcs5 6 _ rfl
  have y5_7 := hcs5 7 _ rfl
  have y5_8 := hcs5 8 _ rfl
  have z5_0 := hfz5 0
  have z5_1 := hfz5 1
  have z5_2 := hfz5 2
  have z5_3 := hfz5 3
  have z5_4 := hfz5 4
  have z5_5 := hfz5 5
  have z5_6 := hfz5 6
  have z5_7 := hfz5 7
  have z5_8 := hfz5 8
  simp only [Nat.zero_add] at y5_0 y5_1 y5_2 y5_3 y5_4 y5_5 y5_6 y5_7 y5_8
  obtain ⟨yl5, yc5, yf5⟩ := boxN hy5
  have u5_0 := yc5 0 _ rfl
  have u5_1 := yc5 1 _ rfl
  have v5_0 := yf5 0
  have v5_1 := yf5 1
  simp only [Nat.zero_add] at u5_0 u5_1
  refine hK.out _ _ ⟨c0_5, u5_0, u5_1⟩ (fun hh => ?_)
  clear hK K
  try go_frame
  refine rdH [15] ?_
  refine rcH (fun K hK => ?_) AllReadyH.nil
  clear hh
  go_simp
  refine (list_ins C (fun s w h g => instr_s C s w h g) s5 2000 _ hs5 (glob_fs hg F5 hB0 h.low) hB0 (by decide)).mono ?_
  rintro r w6 ⟨vv6, n6, s6, rfl, ho6, hgd6, hn6, t6, hs6, hf6⟩
  obtain ⟨p6, l6, cp6, hv6⟩ := ho6.slice
  subst hv6
  have HO6 := hid ho6
  clear ho6
  have hx6 := hf6.box hs5 ht hx5
  have HT6 := hid t6
  have F6 := F5.trans hf6
  clear t6
  have hy6 := hf6.box hs5 hty hy5
  obtain ⟨q1_6, q2_6, c0_6, c1_6, f2_6⟩ := hs6.cells
  obtain ⟨hl6, hcs6, hfz6⟩ := boxN hx6
  have y6_0 := hcs6 0 _ rfl
  have y6_1 := hcs6 1 _ rfl
  have y6_2 := hcs6 2 _ rfl
  have y6_3 := hcs6 3 _ rfl
  have y6_4 := hcs6 4 _ rfl
  have y6_5 := hcs6 5 _ rfl
  have y6_6 := hcs6 6 _ rfl
  have y6_7 := hcs6 7 _ rfl
  have y6_8 := hcs6 8 _ rfl
  have z6_0 := hfz6 0
  have z6_1 := hfz6 1
  have z6_2 := hfz6 2
  have z6_3 := hfz6 3
  have z6_4 := hfz6 4
  have z6_5 := hfz6 5
  have z6_6 := hfz6 6
  have z6_7 := hfz6 7
  have z6_8 := hfz6 8
  simp only [Nat.zero_add] at y6_0 y6_1 y6_2 y6_3 y6_4 y6_5 y6_6 y6_7 y6_8
  obtain ⟨yl6, yc6, yf6⟩ := boxN hy6
  have u6_0 := yc6 0 _ rfl
  have u6_1 := yc6 1 _ rfl
  have v6_0 := yf6 0
  have v6_1 := yf6 1
  simp only [Nat.zero_add] at u6_0 u6_1
  refine hK.out _ _ ⟨c0_6, u6_0, u6_1⟩ (fun hh => ?_)
  clear hK K
  try go_frame
  refine rdH [17] ?_
  refine rcH (fun K hK => ?_) AllReadyH.nil
  clear hh
  go_simp
  refine (list_hnd C (fun s w h g => handler_s C s w h g) s6 50 _ hs6 (glob_fs hg F6 hB0 h.low) hB0 (by decide)).mono ?_
  rintro r w7 ⟨vv7, n7, s7, rfl, ho7, hgd7, hn7, t7, hs7, hf7⟩
  obtain ⟨p7, l7, cp7, hv7⟩ := ho7.slice
  subst hv7
  have HO7 := hid ho7
  clear ho7
  have hx7 := hf7.box hs6 ht hx6
  have HT7 := hid t7
  have F7 := F6.trans hf7
  clear t7
  have hy7 := hf7.box hs6 hty hy6
  obtain ⟨q1_7, q2_7, c0_7, c1_7, f2_7⟩ := hs7.cells
  obtain ⟨hl7, hcs7, hfz7⟩ := boxN hx7
  have y7_0 := hcs7 0 _ rfl
  have y7_1 := hcs7 1 _ rfl
  have y7_2 := hcs7 2 _ rfl
  have y7_3 := hcs7 3 _ rfl
  have y7_4 := hcs7 4 _ rfl
  have y7_5 := hcs7 5 _ rfl
  have y7_6 := hcs7 6 _ rfl
  have y7_7 := hcs7 7 _ rfl
  have y7_8 := hcs7 8 _ rfl
  have z7_0 := hfz7 0
  have z7_1 := hfz7 1
  have z7_2 := hfz7 2
  have z7_3 := hfz7 3
  have z7_4 := hfz7 4
  have z7_5 := hfz7 5
  have z7_6 := hfz7 6
  have z7_7 := hfz7 7
  have z7_8 := hfz7 8
  simp only [Nat.zero_add] at y7_0 y7_1 y7_2 y7_3 y7_4 y7_5 y7_6 y7_7 y7_8
  obtain ⟨yl7, yc7, yf7⟩ := boxN hy7
  have u7_0 := yc7 0 _ rfl
  have u7_1 := yc7 1 _ rfl
  have v7_0 := yf7 0
  have v7_1 := yf7 1
  simp only [Nat.zero_add] at u7_0 u7_1
  refine hK.out _ _ ⟨c0_7, u7_0, u7_1⟩ (fun hh => ?_)
  clear hK K
  try go_frame
  refine tkA 18 _ hh ?_
  try go_frame
  refine rdH [19] ?_
  refine rcH (fun K hK => ?_) AllReadyH.nil
  clear hh
  go_simp
  have hSrc := fun {x0 x1 x2 x3 x4 x5 x6 x7 x8 : Value} => hs7.kpt (set9 (v0 := x0) (v1 := x1) (v2 := x2) (v3 := x3) (v4 := x4) (v5 := x5) (v6 := x6) (v7 := x7) (v8 := x8) hx7).2 (fun x hx => by simp; omega)
  have hY := fun {x0 x1 x2 x3 x4 x5 x6 x7 x8 : Value} => boxN (((set9 (v0 := x0) (v1 := x1) (v2 := x2) (v3 := x3) (v4 := x4) (v5 := x5) (v6 := x6) (v7 := x7) (v8 := x8) hx7).2.2 _ yl7 (by simp; omega)).trans hy7)
  refine hK.out _ _ ⟨hSrc.cells.2.2.1, hY.2.1 0 _ rfl, hY.2.1 1 _ rfl⟩ (fun hh => ?_)
  clear hK K
  try go_frame
  refine wpAnyH_done (by kernel_rfl) ?_ _
  go_wp2_with fail
  have hk := fun {x0 x1 x2 x3 x4 x5 x6 x7 x8 : Value} => (set9 (v0 := x0) (v1 := x1) (v2 := x2) (v3 := x3) (v4 := x4) (v5 := x5) (v6 := x6) (v7 := x7) (v8 := x8) hx7).2
  obtain ⟨ep, ecp, hep, -⟩ := HPA.out.len
  obtain ⟨ei, eci, hei, -⟩ := (HO6.out.rd (sP.grow _)).len
  obtain ⟨eh, ech, heh, -⟩ := (HO7.out.rd (sP.grow _)).len
  refine bodyPost_ret (v := .agg #[.string n1, .slice pA lA cA, .int .i64 k, .string c, .bool true, .bool true, .int .i64 (n5 : Int), .slice p6 l6 cp6, .slice p7 l7 cp7]) (by simp [results, Tryz.results103, go_sem, y7_0, y7_1, y7_2, y7_3, y7_4, y7_5, y7_6, y7_7, y7_8]) rfl ⟨[.string n1, .slice pA lA cA, .int .i64 k, .string c, .bool true, .bool true, .int .i64 (n5 : Int), .slice p6 l6 cp6, .slice p7 l7 cp7], (⟨n1, ps, (k, c), true, true, (n5 : Int), n6, n7⟩ : Mth), s7, rfl, ?_, ?_, took_pb HT1.out (took_pb HT2.out ?_), hSrc, ?_⟩
  ·refine ⟨_, _, _, rfl, ?_, ?_, ?_⟩
   ·exact (((HPA.out.fs (sP.grow _) hf5 hs4 htA).fs (sP.grow _) hf6 hs5 htA).fs (sP.grow _) hf7 hs6 htA).fin (sP.grow _) hk hnX (Nat.le_of_lt hnX)
   ·exact ((HO6.out.rd (sP.grow _)).fs (sP.grow _) hf7 hs6 (Nat.le_trans ht F5.size)).fin (sP.grow _) hk hl5 F5.size
   ·exact (HO7.out.rd (sP.grow _)).fin (sP.grow _) hk hl6 F6.size
  ·refine ⟨⟨(show n1.size <= 100000 by omega), fun t ht => (show t.2.size <= 100000 by have := HZ.out t ht; omega), (show c.size <= 100000 by have := HCZ.out; omega), fun x hx => (hgd6 x hx).1, fun x hx => hgd7 x hx⟩, fun x hx => (hgd6 x hx).2⟩
  ·rw [HR.out]; exact took_pb HT4.out (took_pb HT5.out (took_pb HT6.out (took_map (g := fun h => (⟨n1, ps, (k, c), _, _, (n5 : Int), n6, h⟩ : Mth)) HT7.out)))
  ·exact Fs.fin F7 (fun x hx => by simp at hx; omega) hk
end Go.Proofs.YtijnimjmimeefaaGreat.A
namespace Go.Proofs.YtijnimjmimeefaaGreat.A
open Go.RowKit Go.Proofs.YtijnimjmimeefaaGreat.D Go.Proofs.YtijnimjmimeefaaGreat.O
theorem class_s (C : Cx) (hB0 : 0 < C.B) (s0 : St) (w : World) (h : Src w C s0) (hg : Glob w) : Calls Tryz.prog 54 #[.pointer (some ⟨C.sb, 0, none⟩)] w (TookX C cP gC (pCls C.L) s0 w) := by
 have hb0 : Below w.heap.size w (w.alloc (.cells #[.string ⟨#[]⟩, .string ⟨#[]⟩, .slice none 0 0, .int .i64 0, .slice none 0 0, .slice none 0 0] 52)).drew := ((Below.refl _ _).alloc (Nat.le_refl _) _).drew
 have hs0 := h.below hb0
 have ht := h.top
 have hx0 : (w.alloc (.cells #[.string ⟨#[]⟩, .string ⟨#[]⟩, .slice none 0 0, .int .i64 0, .slice none 0 0, .slice none 0 0] 52)).drew.heap[w.heap.size]? = some (.cells #[.string ⟨#[]⟩, .string ⟨#[]⟩, .slice none 0 0, .int .i64 0, .slice none 0 0, .slice none 0 0] 52 (0, 0)) := heap_alloc_new _ _
 have F0 : Fs C w (w.alloc (.cells #[.string ⟨#[]⟩, .string ⟨#[]⟩, .slice none 0 0, .int .i64 0, .slice none 0 0, .slice none 0 0] 52)).drew := .of_below hb0
 obtain ⟨q1, q2, c0, c1, f2⟩ := hs0.cells
 obtain ⟨-, b0, -⟩ := boxN hx0
 go_enter Tryz.func54, Tryz.ntmps54
 go_wp2_with fail
 refine wp_region_held_drew (S := fun w' => w'.cell? ⟨C.sb, 0, none⟩ = some (.pointer (some ⟨C.rb, 0, none⟩))) (by kernel_rfl) c0 (fun hh => ?_)
 refine tkA 0 _ hh ?_
 try go_frame
 refine tkA 2 _ hh ?_
 try go_frame
 refine tkA 4 _ hh ?_
 try go_frame
 refine tkA 6 _ hh ?_
 try go_frame
 refine tkA 7 _ hh ?_
 try go_frame
 refine tkA 8 _ hh ?_
 try go_frame
 refine tkB 9 _ hh ?_
 try go_frame
 refine tkA 11 _ hh ?_
 try go_frame
 refine tkA 13 _ hh ?_
 try go_frame
 refine rdH [1] ?_
 refine rcH (fun K hK => ?_) AllReadyH.nil
 clear hh
 go_simp
 refine (text_s C s0 _ hs0).mono ?_
 rintro r w1 ⟨n1, s1, rfl, hn1, t1, hs1, hf1⟩
 have hx1 := hf1.box hs0 ht hx0
 have HT1 := hid t1
 have F1 := F0.trans hf1
 clear t1
 obtain ⟨q1_1, q2_1, c0_1, c1_1, f2_1⟩ := hs1.cells
 obtain ⟨hl1, hcs1, hfz1⟩ := boxN hx1
 have y1_0 := hcs1 0 _ rfl
 have y1_1 := hcs1 1 _ rfl
 have y1_2 := hcs1 2 _ rfl
 have y1_3 := hcs1 3 _ rfl
 have y1_4 := hcs1 4 _ rfl
 have y1_5 := hcs1 5 _ rfl
 have z1_0 := hfz1 0
 have z1_1 := hfz1 1
 have z1_2 := hfz1 2
 have z1_3 := hfz1 3
 have z1_4 := hfz1 4
 have z1_5 := hfz1 5
 simp only [Nat.zero_add] at y1_0 y1_1 y1_2 y1_3 y1_4 y1_5
 refine hK.out _ _ c0_1 (fun hh => ?_)
 clear hK K
 try go_frame
 refine rdH [3] ?_
 refine rcH (fun K hK => ?_) AllReadyH.nil
 clear hh
 go_simp
 refine (text_s C s1 _ hs1).mono ?_
 rintro r w2 ⟨n2, s2, rfl, hn2, t2, hs2, hf2⟩
 have hx2 := hf2.box hs1 ht hx1
 have HT2 := hid t2
 have F2 := F1.trans hf2
 clear t2
 obtain ⟨q1_2, q2_2, c0_2, c1_2, f2_2⟩ := hs2.cells
 obtain ⟨hl2, hcs2, hfz2⟩ := boxN hx2
 have y2_0 := hcs2 0 _ rfl
 have y2_1 := hcs2 1 _ rfl
 have y2_2 := hcs2 2 _ rfl
 have y2_3 := hcs2 3 _ rfl
 have y2_4 := hcs2 4 _ rfl
 have y2_5 := hcs2 5 _ rfl
 have z2_0 := hfz2 0
 have z2_1 := hfz2 1
 have z2_2 := hfz2 2
 have z2_3 := hfz2 3
 have z2_4 := hfz2 4
 have z2_5 := hfz2 5
 simp only [Nat.zero_add] at y2_0 y2_1 y2_2 y2_3 y2_4 y2_5
 refine hK.out _ _ c0_2 (fun hh => ?_)
 clear hK K
 try go_frame
 refine rdH [5] ?_
 refine rcH (fun K hK => ?_) AllReadyH.nil
 clear hh
 go_simp
 refine (list_str C (fun s w h g => text_s C s w h) s2 20 _ hs2 (glob_fs hg F2 hB0 h.low) hB0 (by decide)).mono ?_
 rintro r w3 ⟨vv3, n3, s3, rfl, ho3, hgd3, hn3, t3, hs3, hf3⟩
 obtain ⟨p3, l3, cp3, hv3⟩ := ho3.slice
 subst hv3
 have HO3 := hid ho3
 clear ho3
 have hx3 := hf3.box hs2 ht hx2
 have HT3 := hid t3
 have F3 := F2.trans hf3
 clear t3
 obtain ⟨q1_3, q2_3, c0_3, c1_3, f2_3⟩ := hs3.cells
 obtain ⟨hl3, hcs3, hfz3⟩ := boxN hx3
 have y3_0 := hcs3 0 _ rfl
 have y3_1 := hcs3 1 _ rfl
 have y3_2 := hcs3 2 _ rfl
 have y3_3 := hcs3 3 _ rfl
 have y3_4 := hcs3 4 _ rfl
 have y3_5 := hcs3 5 _ rfl
 have z3_0 := hfz3 0
 have z3_1 := hfz3 1
 have z3_2 := hfz3 2
 have z3_3 := hfz3 3
 have z3_4 := hfz3 4
 have z3_5 := hfz3 5
 simp only [Nat.zero_add] at y3_0 y3_1 y3_2 y3_3 y3_4 y3_5
 refine hK.out _ _ c0_3 (fun hh => ?_)
 clear hK K
 try go_frame
 refine rdH [10] ?_
 refine rcH (fun K hK => ?_) AllReadyH.nil
 clear hh
 go_simp
 refine (num_s C s3 4 _ _ hs3 (by rfl) (by decide)).mono ?_
 rintro r w4 ⟨n4, s4, rfl, hn4, t4, hs4, hf4⟩
 have hx4 := hf4.box hs3 ht hx3
 have HT4 := hid t4
 have F4 := F3.trans hf4
 clear t4
 obtain ⟨q1_4, q2_4, c0_4, c1_4, f2_4⟩ := hs4.cells
 obtain ⟨hl4, hcs4, hfz4⟩ := boxN hx4
 have y4_0 := hcs4 0 _ rfl
 have y4_1 := hcs4 1 _ rfl
 have y4_2 := hcs4 2 _ rfl
 have y4_3 := hcs4 3 _ rfl
 have y4_4 := hcs4 4 _ rfl
 have y4_5 := hcs4 5 _ rfl
 have z4_0 := hfz4 0
 have z4_1 := hfz4 1
 have z4_2 := hfz4 2
 have z4_3 := hfz4 3
 have z4_4 := hfz4 4
 have z4_5 := hfz4 5
 simp only [Nat.zero_add] at y4_0 y4_1 y4_2 y4_3 y4_4 y4_5
 refine hK.out _ _ c0_4 (fun hh => ?_)
 clear hK K
 try go_frame
 refine rdH [12] ?_
 refine rcH (fun K hK => ?_) AllReadyH.nil
 clear hh
 go_simp
 refine (list_fld C (fun s w h g => field_s C hB0 s w h g) s4 100 _ hs4 (glob_fs hg F4 hB0 h.low) hB0 (by decide)).mono ?_
 rintro r w5 ⟨vv5, n5, s5, rfl, ho5, hgd5, hn5, t5, hs5, hf5⟩
 obtain ⟨p5, l5, cp5, hv5⟩ := ho5.slice
 subst hv5
 have HO5 := hid ho5
 clear ho5
 have hx5 := hf5.box hs4 ht hx4
 have HT5 := hid t5
 have F5 := F4.trans hf5
 clear t5
 obtain ⟨q1_5, q2_5, c0_5, c1_5, f2_5⟩ := hs5.cells
 obtain ⟨hl5, hcs5, hfz5⟩ := boxN hx5
 have y5_0 := hcs5 0 _ rfl
 have y5_1 := hcs5 1 _ rfl
 have y5_2 := hcs5 2 _ rfl
 have y5_3 := hcs5 3 _ rfl
 have y5_4 := hcs5 4 _ rfl
 have y5_5 := hcs5 5 _ rfl
 have z5_0 := hfz5 0
 have z5_1 := hfz5 1
 have z5_2 := hfz5 2
 have z5_3 := hfz5 3
 have z5_4 := hfz5 4
 have z5_5 := hfz5 5
 simp only [Nat.zero_add] at y5_0 y5_1 y5_2 y5_3 y5_4 y5_5
 refine hK.out _ _ c0_5 (fun hh => ?_)
 clear hK K
 try go_frame
 refine rdH [14] ?_
 refine rcH (fun K hK => ?_) AllReadyH.nil
 clear hh
 go_simp
 refine (list_mth C (fun s w h g => method_s C hB0 s w h g) s5 100 _ hs5 (glob_fs hg F5 hB0 h.low) hB0 (by decide)).mono ?_
 rintro r w6 ⟨vv6, n6, s6, rfl, ho6, hgd6, hn6, t6, hs6, hf6⟩
 obtain ⟨p6, l6, cp6, hv6⟩ := ho6.slice
 subst hv6
 have HO6 := hid ho6
 clear ho6
 have hx6 := hf6.box hs5 ht hx5
 have HT6 := hid t6
 have F6 := F5.trans hf6
 clear t6
 obtain ⟨q1_6, q2_6, c0_6, c1_6, f2_6⟩ := hs6.cells
 obtain ⟨hl6, hcs6, hfz6⟩ := boxN hx6
 have y6_0 := hcs6 0 _ rfl
 have y6_1 := hcs6 1 _ rfl
 have y6_2 := hcs6 2 _ rfl
 have y6_3 := hcs6 3 _ rfl
 have y6_4 := hcs6 4 _ rfl
 have y6_5 := hcs6 5 _ rfl
 have z6_0 := hfz6 0
 have z6_1 := hfz6 1
 have z6_2 := hfz6 2
 have z6_3 := hfz6 3
 have z6_4 := hfz6 4
 have z6_5 := hfz6 5
 simp only [Nat.zero_add] at y6_0 y6_1 y6_2 y6_3 y6_4 y6_5
 refine hK.out _ _ c0_6 (fun hh => ?_)
 clear hK K
 try go_frame
 refine tkA 15 _ hh ?_
 try go_frame
 refine rdH [16] ?_
 refine rcH (fun K hK => ?_) AllReadyH.nil
 clear hh
 go_simp
 have hSrc := fun {x0 x1 x2 x3 x4 x5 : Value} => hs6.kpt (set6 (v0 := x0) (v1 := x1) (v2 := x2) (v3 := x3) (v4 := x4) (v5 := x5) hx6).2 (fun x hx => by simp; omega)
 refine hK.out _ _ hSrc.cells.2.2.1 (fun hh => ?_)
 clear hK K
 try go_frame
 refine wpAnyH_done (by kernel_rfl) ?_ _
 go_wp2_with fail
 have hk := fun {x0 x1 x2 x3 x4 x5 : Value} => (set6 (v0 := x0) (v1 := x1) (v2 := x2) (v3 := x3) (v4 := x4) (v5 := x5) hx6).2
 refine bodyPost_ret (v := .agg #[.string n1, .string n2, .slice p3 l3 cp3, .int .i64 (n4 : Int), .slice p5 l5 cp5, .slice p6 l6 cp6]) (by simp [results, Tryz.results54, go_sem, y6_0, y6_1, y6_2, y6_3, y6_4, y6_5]) rfl ⟨[.string n1, .string n2, .slice p3 l3 cp3, .int .i64 (n4 : Int), .slice p5 l5 cp5, .slice p6 l6 cp6], (⟨n1, n2, n3, (n4 : Int), n5, n6⟩ : Cls), s6, rfl, ?_, ?_, took_pb HT1.out (took_pb HT2.out (took_pb HT3.out (took_pb HT4.out (took_pb HT5.out (took_map (g := fun m => (⟨n1, n2, n3, (n4 : Int), n5, m⟩ : Cls)) HT6.out))))), hSrc, ?_⟩
 ·refine ⟨_, _, _, rfl, ?_, ?_, ?_⟩
  ·exact ((((HO3.out.rd (sP.grow _)).fs (sP.grow _) hf4 hs3 (Nat.le_trans ht F2.size)).fs (sP.grow _) hf5 hs4 (Nat.le_trans ht F2.size)).fs (sP.grow _) hf6 hs5 (Nat.le_trans ht F2.size)).fin (sP.grow _) hk hl2 F2.size
  ·exact ((HO5.out.rd (sP.grow _)).fs (sP.grow _) hf6 hs5 (Nat.le_trans ht F4.size)).fin (sP.grow _) hk hl4 F4.size
  ·exact (HO6.out.rd mP.grow).fin mP.grow hk hl5 F5.size
 ·exact ⟨⟨(show n1.size <= 100000 by omega), (show n2.size <= 100000 by omega), fun x hx => (show x.size <= 100000 by have h : x.size <= 1000 := hgd3 x hx; omega), fun x hx => hgd5 x hx, fun x hx => (hgd6 x hx).1⟩, fun x hx => (hgd6 x hx).2⟩
 ·exact Fs.fin F6 (fun x hx => by simp at hx; omega) hk
end Go.Proofs.YtijnimjmimeefaaGreat.A
