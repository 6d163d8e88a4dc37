/- Texts that the proof is made of, joined. No condition. -/
import Derived.Test.YtijnimjmimeefaaGreatSC7
import Derived.Test.YtijnimjmimeefaaGreatSCH
set_option linter.unusedVariables false
set_option linter.unusedSimpArgs false
set_option maxRecDepth 100000
set_option maxHeartbeats 16000000
namespace Go.Proofs.YtijnimjmimeefaaGreat.A
open Go.RowKit Go.Proofs.YtijnimjmimeefaaGreat.D Go.Proofs.YtijnimjmimeefaaGreat.O
theorem snip_28 : SnO 28 28 := by
 intro B bb st w0 w H n hn hl hl2
 obtain ⟨p, cap, q0, c0⟩ := H.len
 have HB := hid H
 clear H
 have hq : 0 <= (n : Int).tmod 4 /\ (n : Int).tmod 4 < 4 := by rw [Int.tmod_eq_emod_of_nonneg (Int.natCast_nonneg n)]; omega
 have hcv : (#[.string ⟨#[105, 110, 99]⟩, .string ⟨#[116, 119, 105, 99, 101]⟩, .string ⟨#[119, 111, 114, 107]⟩, .string ⟨#[100, 111, 119, 110]⟩] : Array Value)[((n : Int).tmod 4).toNat]? = some (.string (selT (n : Int) 4 [⟨#[105, 110, 99]⟩, ⟨#[116, 119, 105, 99, 101]⟩, ⟨#[119, 111, 114, 107]⟩, ⟨#[100, 111, 119, 110]⟩])) := by
  rw [Int.tmod_eq_emod_of_nonneg (Int.natCast_nonneg n)]; unfold selT
  obtain ⟨j, hj, h⟩ : ∃ j : Nat, j < 4 /\ (n : Int) % 4 = (j : Int) := ⟨n % 4, by omega, by omega⟩
  rw [h]
  match j, hj with
  | 0, _ => rfl
  | 1, _ => rfl
  | 2, _ => rfl
  | 3, _ => rfl
 have HCV := hid hcv
 clear hcv
 have HE : Hid (snip 28 (n : Int) st = bAdd [iAt 4 0, iCall 36 ⟨#[85, 116, 105, 108]⟩ (selT (n : Int) 4 [⟨#[105, 110, 99]⟩, ⟨#[116, 119, 105, 99, 101]⟩, ⟨#[119, 111, 114, 107]⟩, ⟨#[100, 111, 119, 110]⟩]) ⟨#[40, 73, 41, 73]⟩, iAt 5 0] st) := hid (rfl)
 go_enter Tryz.func65, Tryz.ntmps65
 try simp only [List.append_eq, List.cons_append, List.nil_append]
 go_wp2_with fail
 refine (at_x _ _ _).mono ?_
 rintro e w1 ⟨rfl, hb⟩
 replace HB := hid (HB.out.next hb)
 clear hb c0 q0
 have HT := hid (TC.made w1)
 replace HB := hid (HB.out.bt.lit (.cells #[.int .i64 4, .int .i32 0, .int .i64 3, .string ⟨#[]⟩, .string ⟨#[]⟩, .string ⟨#[]⟩, .string ⟨#[]⟩] 61))
 go_wp2_with fail
 obtain ⟨w2, hw2⟩ : ∃ x, x = w1.alloc (.cells #[.int .i64 4, .int .i32 0, .int .i64 3, .string ⟨#[]⟩, .string ⟨#[]⟩, .string ⟨#[]⟩, .string ⟨#[]⟩] 61) := ⟨_, rfl⟩
 obtain ⟨tb, htb⟩ : ∃ x, x = w1.heap.size := ⟨_, rfl⟩
 rw [<- hw2, <- htb] at HB HT
 try rw [<- hw2]
 try rw [<- htb]
 clear hw2 htb
 replace HB := hid (HB.out.next (below_dr w2))
 replace HT := hid (HT.out.next (below_dr w2))
 refine wp_region_held_drew (S := fun w' => w'.cell? ⟨tb, 0, none⟩ = some (.int .i64 4) /\ w'.cell? ⟨tb, 1, none⟩ = some (.int .i32 0) /\ w'.cell? ⟨tb, 2, none⟩ = some (.int .i64 3) /\ w'.cell? ⟨tb, 3, none⟩ = some (.string ⟨#[]⟩) /\ w'.cell? ⟨tb, 4, none⟩ = some (.string ⟨#[]⟩) /\ w'.cell? ⟨tb, 5, none⟩ = some (.string ⟨#[]⟩) /\ w'.cell? ⟨tb, 6, none⟩ = some (.string ⟨#[]⟩)) (by kernel_rfl) (z7c HT.out.2) (fun hh => ?_)
 refine tkA 0 _ hh ?_
 try go_frame
 refine tkA 3 _ hh ?_
 try go_frame
 refine tkA 4 _ hh ?_
 try go_frame
 refine rdH [1, 2] ?_
 refine rcH (fun K hK => ?_) ?_
 ·clear hh
  go_simp
  refine (at_x _ _ _).mono ?_
  rintro e x1 ⟨rfl, hb⟩
  replace HB := hid (HB.out.next hb)
  replace HT := hid (HT.out.next hb)
  clear hb
  refine hK.out _ _ (z7c HT.out.2) (fun hh => ?_)
  clear hK K
  try go_frame
  refine rdH [2] ?_
  refine rcH (fun K hK => ?_) AllReadyH.nil
  clear hh
  go_simp
  replace HB := hid (HB.out.lit (.cells #[.string ⟨#[105, 110, 99]⟩, .string ⟨#[116, 119, 105, 99, 101]⟩, .string ⟨#[119, 111, 114, 107]⟩, .string ⟨#[100, 111, 119, 110]⟩] 9))
  replace HT := hid (HT.out.next (below_al _ (.cells #[.string ⟨#[105, 110, 99]⟩, .string ⟨#[116, 119, 105, 99, 101]⟩, .string ⟨#[119, 111, 114, 107]⟩, .string ⟨#[100, 111, 119, 110]⟩] 9)))
  have HV := hid (CV.made (w := x1) (cs := #[.string ⟨#[105, 110, 99]⟩, .string ⟨#[116, 119, 105, 99, 101]⟩, .string ⟨#[119, 111, 114, 107]⟩, .string ⟨#[100, 111, 119, 110]⟩]) (T := 9) (i := ((n : Int).tmod 4).toNat) (v := .string (selT (n : Int) 4 [⟨#[105, 110, 99]⟩, ⟨#[116, 119, 105, 99, 101]⟩, ⟨#[119, 111, 114, 107]⟩, ⟨#[100, 111, 119, 110]⟩])) HCV.out)
  refine hK.out _ _ (z7c HT.out.2) (fun hh => ?_)
  clear hK K
  try go_frame
  refine tkA 5 _ hh ?_
  try go_frame
  refine wpAnyH_and (T := fun W => W.cell? ⟨x1.heap.size, ((n : Int).tmod 4).toNat, none⟩ = some (.string (selT (n : Int) 4 [⟨#[105, 110, 99]⟩, ⟨#[116, 119, 105, 99, 101]⟩, ⟨#[119, 111, 114, 107]⟩, ⟨#[100, 111, 119, 110]⟩]))) _ _ _ _ ?_
  replace hh := And.intro hh (HV.out.2)
  refine tkH 6 ?_ (fun W hSw => ?_) hh ?_
  rotate_left 1
  ·(have hT := hSw.2; clear hSw; first | (go_simp; done) | (go_simp; with_reducible rfl))
  try go_frame
  refine rdH [7] ?_
  refine rcH (fun K hK => ?_) AllReadyH.nil
  clear hh
  go_simp
  refine (call_x _ _ _ _ _).mono ?_
  rintro e x7 ⟨rfl, hb⟩
  replace HB := hid (HB.out.next hb)
  replace HT := hid (HT.out.next hb)
  replace HV := hid (HV.out.next hb)
  clear hb
  refine hK.out _ _ ⟨(z7c HT.out.2), HV.out.2⟩ (fun hh => ?_)
  clear hK K
  try go_frame
  refine rdH [8] ?_
  refine rcH (fun K hK => ?_) AllReadyH.nil
  clear hh
  go_simp
  refine (at_x _ _ _).mono ?_
  rintro e x8 ⟨rfl, hb⟩
  replace HB := hid (HB.out.next hb)
  replace HT := hid (HT.out.next hb)
  replace HV := hid (HV.out.next hb)
  clear hb
  refine hK.out _ _ ⟨(z7c HT.out.2), HV.out.2⟩ (fun hh => ?_)
  clear hK K
  try go_frame
  refine rdH [9] ?_
  refine rcH (fun K hK => ?_) AllReadyH.nil
  clear hh
  go_simp
  refine hK.out _ _ ⟨(z7c (HT.out.next (below_al _ _)).2), (HV.out.next (below_al _ _)).2⟩ (fun hh => ?_)
  clear hK K
  try go_frame
  refine rdH [10] ?_
  refine rcH (fun K hK => ?_) AllReadyH.nil
  clear hh
  go_simp
  refine (add_t HB.out [iAt 4 0, iCall 36 ⟨#[85, 116, 105, 108]⟩ (selT (n : Int) 4 [⟨#[105, 110, 99]⟩, ⟨#[116, 119, 105, 99, 101]⟩, ⟨#[119, 111, 114, 107]⟩, ⟨#[100, 111, 119, 110]⟩]) ⟨#[40, 73, 41, 73]⟩, iAt 5 0] _ rfl _ rfl (by simp [bAdd, bTry]; omega)).mono ?_
  rintro e w' ⟨rfl, H1, H2, H3⟩
  replace HT := hid ((HT.out.next (below_al _ _)).same H2 (H3 _ (by simp)))
  replace HV := hid ((HV.out.next (below_al _ _)).same H2 (H3 _ (by simp)))
  replace HB := hid H1
  clear H1 H2 H3
  refine hK.out _ _ ⟨(z7c HT.out.2), HV.out.2⟩ (fun hh => ?_)
  clear hK K
  try go_frame
  refine wpAnyH_done (by kernel_rfl) ?_ _
  replace HB := hid HB.out.bs
  clear HT
  clear HV
  go_wp2_with fail
  exact bodyPost_end (results_none rfl _ _ _) rfl ⟨rfl, by rw [HE.out]; exact HB.out⟩
 refine rcH (fun K hK => ?_) AllReadyH.nil
 clear hh
 go_simp
 replace HB := hid (HB.out.lit (.cells #[.string ⟨#[105, 110, 99]⟩, .string ⟨#[116, 119, 105, 99, 101]⟩, .string ⟨#[119, 111, 114, 107]⟩, .string ⟨#[100, 111, 119, 110]⟩] 9))
 replace HT := hid (HT.out.next (below_al _ (.cells #[.string ⟨#[105, 110, 99]⟩, .string ⟨#[116, 119, 105, 99, 101]⟩, .string ⟨#[119, 111, 114, 107]⟩, .string ⟨#[100, 111, 119, 110]⟩] 9)))
 have HV := hid (CV.made (w := w2.drew) (cs := #[.string ⟨#[105, 110, 99]⟩, .string ⟨#[116, 119, 105, 99, 101]⟩, .string ⟨#[119, 111, 114, 107]⟩, .string ⟨#[100, 111, 119, 110]⟩]) (T := 9) (i := ((n : Int).tmod 4).toNat) (v := .string (selT (n : Int) 4 [⟨#[105, 110, 99]⟩, ⟨#[116, 119, 105, 99, 101]⟩, ⟨#[119, 111, 114, 107]⟩, ⟨#[100, 111, 119, 110]⟩])) HCV.out)
 refine hK.out _ _ (z7c HT.out.2) (fun hh => ?_)
 clear hK K
 try go_frame
 refine tkA 5 _ hh ?_
 try go_frame
 refine wpAnyH_and (T := fun W => W.cell? ⟨w2.heap.size, ((n : Int).tmod 4).toNat, none⟩ = some (.string (selT (n : Int) 4 [⟨#[105, 110, 99]⟩, ⟨#[116, 119, 105, 99, 101]⟩, ⟨#[119, 111, 114, 107]⟩, ⟨#[100, 111, 119, 110]⟩]))) _ _ _ _ ?_
 replace hh := And.intro hh (HV.out.2)
 refine tkH 6 ?_ (fun W hSw => ?_) hh ?_
 rotate_left 1
 ·(have hT := hSw.2; clear hSw; first | (go_simp; done) | (go_simp; with_reducible rfl))
 try go_frame
 refine rdH [1] ?_
 refine rcH (fun K hK => ?_) AllReadyH.nil
 clear hh
 go_simp
 refine (at_x _ _ _).mono ?_
 rintro e x1 ⟨rfl, hb⟩
 replace HB := hid (HB.out.next hb)
 replace HT := hid (HT.out.next hb)
 replace HV := hid (HV.out.next hb)
 clear hb
 refine hK.out _ _ ⟨(z7c HT.out.2), HV.out.2⟩ (fun hh => ?_)
 clear hK K
 try go_frame
 refine rdH [7] ?_
 refine rcH (fun K hK => ?_) AllReadyH.nil
 clear hh
 go_simp
 refine (call_x _ _ _ _ _).mono ?_
 rintro e x7 ⟨rfl, hb⟩
 replace HB := hid (HB.out.next hb)
 replace HT := hid (HT.out.next hb)
 replace HV := hid (HV.out.next hb)
 clear hb
 refine hK.out _ _ ⟨(z7c HT.out.2), HV.out.2⟩ (fun hh => ?_)
 clear hK K
 try go_frame
 refine rdH [8] ?_
 refine rcH (fun K hK => ?_) AllReadyH.nil
 clear hh
 go_simp
 refine (at_x _ _ _).mono ?_
 rintro e x8 ⟨rfl, hb⟩
 replace HB := hid (HB.out.next hb)
 replace HT := hid (HT.out.next hb)
 replace HV := hid (HV.out.next hb)
 clear hb
 refine hK.out _ _ ⟨(z7c HT.out.2), HV.out.2⟩ (fun hh => ?_)
 clear hK K
 try go_frame
 refine rdH [9] ?_
 refine rcH (fun K hK => ?_) AllReadyH.nil
 clear hh
 go_simp
 refine hK.out _ _ ⟨(z7c (HT.out.next (below_al _ _)).2), (HV.out.next (below_al _ _)).2⟩ (fun hh => ?_)
 clear hK K
 try go_frame
 refine rdH [10] ?_
 refine rcH (fun K hK => ?_) AllReadyH.nil
 clear hh
 go_simp
 refine (add_t HB.out [iAt 4 0, iCall 36 ⟨#[85, 116, 105, 108]⟩ (selT (n : Int) 4 [⟨#[105, 110, 99]⟩, ⟨#[116, 119, 105, 99, 101]⟩, ⟨#[119, 111, 114, 107]⟩, ⟨#[100, 111, 119, 110]⟩]) ⟨#[40, 73, 41, 73]⟩, iAt 5 0] _ rfl _ rfl (by simp [bAdd, bTry]; omega)).mono ?_
 rintro e w' ⟨rfl, H1, H2, H3⟩
 replace HT := hid ((HT.out.next (below_al _ _)).same H2 (H3 _ (by simp)))
 replace HV := hid ((HV.out.next (below_al _ _)).same H2 (H3 _ (by simp)))
 replace HB := hid H1
 clear H1 H2 H3
 refine hK.out _ _ ⟨(z7c HT.out.2), HV.out.2⟩ (fun hh => ?_)
 clear hK K
 try go_frame
 refine wpAnyH_done (by kernel_rfl) ?_ _
 replace HB := hid HB.out.bs
 clear HT
 clear HV
 go_wp2_with fail
 exact bodyPost_end (results_none rfl _ _ _) rfl ⟨rfl, by rw [HE.out]; exact HB.out⟩
theorem snip_29 : SnO 29 29 := by
 intro B bb st w0 w H n hn hl hl2
 obtain ⟨p, cap, q0, c0⟩ := H.len
 have HB := hid H
 clear H
 have HE : Hid (snip 29 (n : Int) st = bAdd [iAt 4 3, iCall 36 ⟨#[85, 116, 105, 108]⟩ ⟨#[115, 97, 109, 101]⟩ ⟨#[40, 76, 66, 97, 115, 101, 59, 41, 76, 66, 97, 115, 101, 59]⟩, iAt 5 3] st) := hid (rfl)
 go_enter Tryz.func65, Tryz.ntmps65
 try simp only [List.append_eq, List.cons_append, List.nil_append]
 go_wp2_with fail
 refine (at_x _ _ _).mono ?_
 rintro e w1 ⟨rfl, hb⟩
 replace HB := hid (HB.out.next hb)
 clear hb c0 q0
 have HT := hid (TC.made w1)
 replace HB := hid (HB.out.bt.lit (.cells #[.int .i64 4, .int .i32 0, .int .i64 3, .string ⟨#[]⟩, .string ⟨#[]⟩, .string ⟨#[]⟩, .string ⟨#[]⟩] 61))
 go_wp2_with fail
 obtain ⟨w2, hw2⟩ : ∃ x, x = w1.alloc (.cells #[.int .i64 4, .int .i32 0, .int .i64 3, .string ⟨#[]⟩, .string ⟨#[]⟩, .string ⟨#[]⟩, .string ⟨#[]⟩] 61) := ⟨_, rfl⟩
 obtain ⟨tb, htb⟩ : ∃ x, x = w1.heap.size := ⟨_, rfl⟩
 rw [<- hw2, <- htb] at HB HT
 try rw [<- hw2]
 try rw [<- htb]
 clear hw2 htb
 replace HB := hid (HB.out.next (below_dr w2))
 replace HT := hid (HT.out.next (below_dr w2))
 refine wp_region_held_drew (S := fun w' => w'.cell? ⟨tb, 0, none⟩ = some (.int .i64 4) /\ w'.cell? ⟨tb, 1, none⟩ = some (.int .i32 0) /\ w'.cell? ⟨tb, 2, none⟩ = some (.int .i64 3) /\ w'.cell? ⟨tb, 3, none⟩ = some (.string ⟨#[]⟩) /\ w'.cell? ⟨tb, 4, none⟩ = some (.string ⟨#[]⟩) /\ w'.cell? ⟨tb, 5, none⟩ = some (.string ⟨#[]⟩) /\ w'.cell? ⟨tb, 6, none⟩ = some (.string ⟨#[]⟩)) (by kernel_rfl) (z7c HT.out.2) (fun hh => ?_)
 refine tkA 0 _ hh ?_
 try go_frame
 refine tkB 1 _ hh ?_
 try go_frame
 refine rdH [2] ?_
 refine rcH (fun K hK => ?_) AllReadyH.nil
 clear hh
 go_simp
 refine (call_x _ _ _ _ _).mono ?_
 rintro e x2 ⟨rfl, hb⟩
 replace HB := hid (HB.out.next hb)
 replace HT := hid (HT.out.next hb)
 clear hb
 refine hK.out _ _ (z7c HT.out.2) (fun hh => ?_)
 clear hK K
 try go_frame
 refine rdH [3] ?_
 refine rcH (fun K hK => ?_) AllReadyH.nil
 clear hh
 go_simp
 refine (at_x _ _ _).mono ?_
 rintro e x3 ⟨rfl, hb⟩
 replace HB := hid (HB.out.next hb)
 replace HT := hid (HT.out.next hb)
 clear hb
 refine hK.out _ _ (z7c HT.out.2) (fun hh => ?_)
 clear hK K
 try go_frame
 refine rdH [4] ?_
 refine rcH (fun K hK => ?_) AllReadyH.nil
 clear hh
 go_simp
 refine hK.out _ _ (z7c (HT.out.next (below_al _ _)).2) (fun hh => ?_)
 clear hK K
 try go_frame
 refine rdH [5] ?_
 refine rcH (fun K hK => ?_) AllReadyH.nil
 clear hh
 go_simp
 refine (add_t HB.out [iAt 4 3, iCall 36 ⟨#[85, 116, 105, 108]⟩ ⟨#[115, 97, 109, 101]⟩ ⟨#[40, 76, 66, 97, 115, 101, 59, 41, 76, 66, 97, 115, 101, 59]⟩, iAt 5 3] _ rfl _ rfl (by simp [bAdd, bTry]; omega)).mono ?_
 rintro e w' ⟨rfl, H1, H2, H3⟩
 replace HT := hid ((HT.out.next (below_al _ _)).same H2 (H3 _ (by simp)))
 replace HB := hid H1
 clear H1 H2 H3
 refine hK.out _ _ (z7c HT.out.2) (fun hh => ?_)
 clear hK K
 try go_frame
 refine wpAnyH_done (by kernel_rfl) ?_ _
 replace HB := hid HB.out.bs
 clear HT
 go_wp2_with fail
 exact bodyPost_end (results_none rfl _ _ _) rfl ⟨rfl, by rw [HE.out]; exact HB.out⟩
theorem snip_30 : SnO 30 30 := by
 intro B bb st w0 w H n hn hl hl2
 obtain ⟨p, cap, q0, c0⟩ := H.len
 have HB := hid H
 clear H
 have hm0 : n % 4 = 0 ∨ n % 4 = 1 ∨ n % 4 = 2 ∨ n % 4 = 3 := by omega
 rcases hm0 with h0 | h0 | h0 | h0
 ·have hi0 : (n : Int) % 4 = 0 := by omega
  have hs0 : selT (n : Int) 4 [⟨#[69, 114, 114]⟩, ⟨#[69, 114, 114, 50]⟩, ⟨#[70, 97, 117, 108, 116]⟩, ⟨#[78, 117, 108, 108, 70, 97, 117, 108, 116]⟩] = ⟨#[69, 114, 114]⟩ := by unfold selT; rw [hi0]; rfl
  have HE : Hid (snip 30 (n : Int) st = bTry st.1.length ⟨#[69, 114, 114]⟩ ⟨#[101, 114, 114]⟩ (bAdd [iCall 36 ⟨#[85, 116, 105, 108]⟩ ⟨#[102, 97, 105, 108]⟩ ⟨#[40, 41, 86]⟩] st)) := hid (by simp only [snip, hs0])
  clear hs0
  go_enter Tryz.func65, Tryz.ntmps65
  try simp only [List.append_eq, List.cons_append, List.nil_append]
  go_wp2_with fail
  refine (at_x _ _ _).mono ?_
  rintro e w1 ⟨rfl, hb⟩
  replace HB := hid (HB.out.next hb)
  clear hb c0 q0
  replace HB := hid (HB.out.lit (.cells #[.int .i64 4, .int .i32 0, .int .i64 3, .string ⟨#[]⟩, .string ⟨#[]⟩, .string ⟨#[]⟩, .string ⟨#[]⟩] 61))
  go_wp2_with (go_at_call 67; refine (call_x _ _ _ _ _).mono ?_; rintro e w' ⟨rfl, hb⟩; (first | replace HB := hid (HB.out.next hb) | replace HB := hid ((HB.out.lit _).next hb)); clear hb)
  refine (add_s HB.out [iCall 36 ⟨#[85, 116, 105, 108]⟩ ⟨#[102, 97, 105, 108]⟩ ⟨#[40, 41, 86]⟩] _ rfl _ rfl (by simp [bAdd, bTry]; omega)).mono ?_
  rintro e w' ⟨rfl, H1⟩
  replace HB := hid H1
  clear H1
  go_wp2_with (fail)
  refine (try_s (HB.out.lit _) st.1.length ⟨#[69, 114, 114]⟩ ⟨#[101, 114, 114]⟩ (by omega) (by simp [bAdd, bTry]; omega) (by simp [bAdd, bTry]; omega)).mono ?_
  rintro e w' ⟨rfl, H1⟩
  replace HB := hid H1
  clear H1
  go_wp2_with fail
  exact bodyPost_end (results_none rfl _ _ _) rfl ⟨rfl, by rw [HE.out]; exact HB.out⟩
 ·have hi0 : (n : Int) % 4 = 1 := by omega
  have hs0 : selT (n : Int) 4 [⟨#[69, 114, 114]⟩, ⟨#[69, 114, 114, 50]⟩, ⟨#[70, 97, 117, 108, 116]⟩, ⟨#[78, 117, 108, 108, 70, 97, 117, 108, 116]⟩] = ⟨#[69, 114, 114, 50]⟩ := by unfold selT; rw [hi0]; rfl
  have HE : Hid (snip 30 (n : Int) st = bTry st.1.length ⟨#[69, 114, 114, 50]⟩ ⟨#[101, 114, 114]⟩ (bAdd [iCall 36 ⟨#[85, 116, 105, 108]⟩ ⟨#[102, 97, 105, 108]⟩ ⟨#[40, 41, 86]⟩] st)) := hid (by simp only [snip, hs0])
  clear hs0
  go_enter Tryz.func65, Tryz.ntmps65
  try simp only [List.append_eq, List.cons_append, List.nil_append]
  go_wp2_with fail
  refine (at_x _ _ _).mono ?_
  rintro e w1 ⟨rfl, hb⟩
  replace HB := hid (HB.out.next hb)
  clear hb c0 q0
  replace HB := hid (HB.out.lit (.cells #[.int .i64 4, .int .i32 0, .int .i64 3, .string ⟨#[]⟩, .string ⟨#[]⟩, .string ⟨#[]⟩, .string ⟨#[]⟩] 61))
  go_wp2_with (go_at_call 67; refine (call_x _ _ _ _ _).mono ?_; rintro e w' ⟨rfl, hb⟩; (first | replace HB := hid (HB.out.next hb) | replace HB := hid ((HB.out.lit _).next hb)); clear hb)
  refine (add_s HB.out [iCall 36 ⟨#[85, 116, 105, 108]⟩ ⟨#[102, 97, 105, 108]⟩ ⟨#[40, 41, 86]⟩] _ rfl _ rfl (by simp [bAdd, bTry]; omega)).mono ?_
  rintro e w' ⟨rfl, H1⟩
  replace HB := hid H1
  clear H1
  go_wp2_with (fail)
  refine (try_s (HB.out.lit _) st.1.length ⟨#[69, 114, 114, 50]⟩ ⟨#[101, 114, 114]⟩ (by omega) (by simp [bAdd, bTry]; omega) (by simp [bAdd, bTry]; omega)).mono ?_
  rintro e w' ⟨rfl, H1⟩
  replace HB := hid H1
  clear H1
  go_wp2_with fail
  exact bodyPost_end (results_none rfl _ _ _) rfl ⟨rfl, by rw [HE.out]; exact HB.out⟩
 ·have hi0 : (n : Int) % 4 = 2 := by omega
  have hs0 : selT (n : Int) 4 [⟨#[69, 114, 114]⟩, ⟨#[69, 114, 114, 50]⟩, ⟨#[70, 97, 117, 108, 116]⟩, ⟨#[78, 117, 108, 108, 70, 97, 117, 108, 116]⟩] = ⟨#[70, 97, 117, 108, 116]⟩ := by unfold selT; rw [hi0]; rfl
  have HE : Hid (snip 30 (n : Int) st = bTry st.1.length ⟨#[70, 97, 117, 108, 116]⟩ ⟨#[101, 114, 114]⟩ (bAdd [iCall 36 ⟨#[85, 116, 105, 108]⟩ ⟨#[102, 97, 105, 108]⟩ ⟨#[40, 41, 86]⟩] st)) := hid (by simp only [snip, hs0])
  clear hs0
  go_enter Tryz.func65, Tryz.ntmps65
  try simp only [List.append_eq, List.cons_append, List.nil_append]
  go_wp2_with fail
  refine (at_x _ _ _).mono ?_
  rintro e w1 ⟨rfl, hb⟩
  replace HB := hid (HB.out.next hb)
  clear hb c0 q0
  replace HB := hid (HB.out.lit (.cells #[.int .i64 4, .int .i32 0, .int .i64 3, .string ⟨#[]⟩, .string ⟨#[]⟩, .string ⟨#[]⟩, .string ⟨#[]⟩] 61))
  go_wp2_with (go_at_call 67; refine (call_x _ _ _ _ _).mono ?_; rintro e w' ⟨rfl, hb⟩; (first | replace HB := hid (HB.out.next hb) | replace HB := hid ((HB.out.lit _).next hb)); clear hb)
  refine (add_s HB.out [iCall 36 ⟨#[85, 116, 105, 108]⟩ ⟨#[102, 97, 105, 108]⟩ ⟨#[40, 41, 86]⟩] _ rfl _ rfl (by simp [bAdd, bTry]; omega)).mono ?_
  rintro e w' ⟨rfl, H1⟩
  replace HB := hid H1
  clear H1
  go_wp2_with (fail)
  refine (try_s (HB.out.lit _) st.1.length ⟨#[70, 97, 117, 108, 116]⟩ ⟨#[101, 114, 114]⟩ (by omega) (by simp [bAdd, bTry]; omega) (by simp [bAdd, bTry]; omega)).mono ?_
  rintro e w' ⟨rfl, H1⟩
  replace HB := hid H1
  clear H1
  go_wp2_with fail
  exact bodyPost_end (results_none rfl _ _ _) rfl ⟨rfl, by rw [HE.out]; exact HB.out⟩
 ·have hi0 : (n : Int) % 4 = 3 := by omega
  have hs0 : selT (n : Int) 4 [⟨#[69, 114, 114]⟩, ⟨#[69, 114, 114, 50]⟩, ⟨#[70, 97, 117, 108, 116]⟩, ⟨#[78, 117, 108, 108, 70, 97, 117, 108, 116]⟩] = ⟨#[78, 117, 108, 108, 70, 97, 117, 108, 116]⟩ := by unfold selT; rw [hi0]; rfl
  have HE : Hid (snip 30 (n : Int) st = bTry st.1.length ⟨#[78, 117, 108, 108, 70, 97, 117, 108, 116]⟩ ⟨#[101, 114, 114]⟩ (bAdd [iCall 36 ⟨#[85, 116, 105, 108]⟩ ⟨#[102, 97, 105, 108]⟩ ⟨#[40, 41, 86]⟩] st)) := hid (by simp only [snip, hs0])
  clear hs0
  go_enter Tryz.func65, Tryz.ntmps65
  try simp only [List.append_eq, List.cons_append, List.nil_append]
  go_wp2_with fail
  refine (at_x _ _ _).mono ?_
  rintro e w1 ⟨rfl, hb⟩
  replace HB := hid (HB.out.next hb)
  clear hb c0 q0
  replace HB := hid (HB.out.lit (.cells #[.int .i64 4, .int .i32 0, .int .i64 3, .string ⟨#[]⟩, .string ⟨#[]⟩, .string ⟨#[]⟩, .string ⟨#[]⟩] 61))
  go_wp2_with (go_at_call 67; refine (call_x _ _ _ _ _).mono ?_; rintro e w' ⟨rfl, hb⟩; (first | replace HB := hid (HB.out.next hb) | replace HB := hid ((HB.out.lit _).next hb)); clear hb)
  refine (add_s HB.out [iCall 36 ⟨#[85, 116, 105, 108]⟩ ⟨#[102, 97, 105, 108]⟩ ⟨#[40, 41, 86]⟩] _ rfl _ rfl (by simp [bAdd, bTry]; omega)).mono ?_
  rintro e w' ⟨rfl, H1⟩
  replace HB := hid H1
  clear H1
  go_wp2_with (fail)
  refine (try_s (HB.out.lit _) st.1.length ⟨#[78, 117, 108, 108, 70, 97, 117, 108, 116]⟩ ⟨#[101, 114, 114]⟩ (by omega) (by simp [bAdd, bTry]; omega) (by simp [bAdd, bTry]; omega)).mono ?_
  rintro e w' ⟨rfl, H1⟩
  replace HB := hid H1
  clear H1
  go_wp2_with fail
  exact bodyPost_end (results_none rfl _ _ _) rfl ⟨rfl, by rw [HE.out]; exact HB.out⟩
theorem snip_31 : SnO 31 31 := by
 intro B bb st w0 w H n hn hl hl2
 obtain ⟨p, cap, q0, c0⟩ := H.len
 have HB := hid H
 clear H
 have HE : Hid (snip 31 (n : Int) st = bAdd [iAt 4 3, iAt 4 3, iPart 27 ⟨#[66, 97, 115, 101]⟩ ⟨#[110, 101, 120, 116]⟩, iAt 4 3, iPart 26 ⟨#[66, 97, 115, 101]⟩ ⟨#[110, 101, 120, 116]⟩, iAt 5 3] st) := hid (rfl)
 go_enter Tryz.func65, Tryz.ntmps65
 try simp only [List.append_eq, List.cons_append, List.nil_append]
 go_wp2_with fail
 refine (at_x _ _ _).mono ?_
 rintro e w1 ⟨rfl, hb⟩
 replace HB := hid (HB.out.next hb)
 clear hb c0 q0
 have HT := hid (TC.made w1)
 replace HB := hid (HB.out.bt.lit (.cells #[.int .i64 4, .int .i32 0, .int .i64 3, .string ⟨#[]⟩, .string ⟨#[]⟩, .string ⟨#[]⟩, .string ⟨#[]⟩] 61))
 go_wp2_with fail
 obtain ⟨w2, hw2⟩ : ∃ x, x = w1.alloc (.cells #[.int .i64 4, .int .i32 0, .int .i64 3, .string ⟨#[]⟩, .string ⟨#[]⟩, .string ⟨#[]⟩, .string ⟨#[]⟩] 61) := ⟨_, rfl⟩
 obtain ⟨tb, htb⟩ : ∃ x, x = w1.heap.size := ⟨_, rfl⟩
 rw [<- hw2, <- htb] at HB HT
 try rw [<- hw2]
 try rw [<- htb]
 clear hw2 htb
 replace HB := hid (HB.out.next (below_dr w2))
 replace HT := hid (HT.out.next (below_dr w2))
 refine wp_region_held_drew (S := fun w' => w'.cell? ⟨tb, 0, none⟩ = some (.int .i64 4) /\ w'.cell? ⟨tb, 1, none⟩ = some (.int .i32 0) /\ w'.cell? ⟨tb, 2, none⟩ = some (.int .i64 3) /\ w'.cell? ⟨tb, 3, none⟩ = some (.string ⟨#[]⟩) /\ w'.cell? ⟨tb, 4, none⟩ = some (.string ⟨#[]⟩) /\ w'.cell? ⟨tb, 5, none⟩ = some (.string ⟨#[]⟩) /\ w'.cell? ⟨tb, 6, none⟩ = some (.string ⟨#[]⟩)) (by kernel_rfl) (z7c HT.out.2) (fun hh => ?_)
 refine tkA 0 _ hh ?_
 try go_frame
 refine tkB 1 _ hh ?_
 try go_frame
 refine tkB 2 _ hh ?_
 try go_frame
 refine tkB 4 _ hh ?_
 try go_frame
 refine rdH [3] ?_
 refine rcH (fun K hK => ?_) AllReadyH.nil
 clear hh
 go_simp
 refine (part_x _ _ _ _).mono ?_
 rintro e x3 ⟨rfl, hb⟩
 replace HB := hid (HB.out.next hb)
 replace HT := hid (HT.out.next hb)
 clear hb
 refine hK.out _ _ (z7c HT.out.2) (fun hh => ?_)
 clear hK K
 try go_frame
 refine rdH [5] ?_
 refine rcH (fun K hK => ?_) AllReadyH.nil
 clear hh
 go_simp
 refine (part_x _ _ _ _).mono ?_
 rintro e x5 ⟨rfl, hb⟩
 replace HB := hid (HB.out.next hb)
 replace HT := hid (HT.out.next hb)
 clear hb
 refine hK.out _ _ (z7c HT.out.2) (fun hh => ?_)
 clear hK K
 try go_frame
 refine rdH [6] ?_
 refine rcH (fun K hK => ?_) AllReadyH.nil
 clear hh
 go_simp
 refine (at_x _ _ _).mono ?_
 rintro e x6 ⟨rfl, hb⟩
 replace HB := hid (HB.out.next hb)
 replace HT := hid (HT.out.next hb)
 clear hb
 refine hK.out _ _ (z7c HT.out.2) (fun hh => ?_)
 clear hK K
 try go_frame
 refine rdH [7] ?_
 refine rcH (fun K hK => ?_) AllReadyH.nil
 clear hh
 go_simp
 refine hK.out _ _ (z7c (HT.out.next (below_al _ _)).2) (fun hh => ?_)
 clear hK K
 try go_frame
 refine rdH [8] ?_
 refine rcH (fun K hK => ?_) AllReadyH.nil
 clear hh
 go_simp
 refine (add_t HB.out [iAt 4 3, iAt 4 3, iPart 27 ⟨#[66, 97, 115, 101]⟩ ⟨#[110, 101, 120, 116]⟩, iAt 4 3, iPart 26 ⟨#[66, 97, 115, 101]⟩ ⟨#[110, 101, 120, 116]⟩, iAt 5 3] _ rfl _ rfl (by simp [bAdd, bTry]; omega)).mono ?_
 rintro e w' ⟨rfl, H1, H2, H3⟩
 replace HT := hid ((HT.out.next (below_al _ _)).same H2 (H3 _ (by simp)))
 replace HB := hid H1
 clear H1 H2 H3
 refine hK.out _ _ (z7c HT.out.2) (fun hh => ?_)
 clear hK K
 try go_frame
 refine wpAnyH_done (by kernel_rfl) ?_ _
 replace HB := hid HB.out.bs
 clear HT
 go_wp2_with fail
 exact bodyPost_end (results_none rfl _ _ _) rfl ⟨rfl, by rw [HE.out]; exact HB.out⟩
theorem snip_32 : SnO 32 32 := by
 intro B bb st w0 w H n hn hl hl2
 obtain ⟨p, cap, q0, c0⟩ := H.len
 have HB := hid H
 clear H
 have hq : 0 <= (n : Int).tmod 6 /\ (n : Int).tmod 6 < 6 := by rw [Int.tmod_eq_emod_of_nonneg (Int.natCast_nonneg n)]; omega
 have hcv : (#[.string ⟨#[66]⟩, .string ⟨#[77, 105, 100]⟩, .string ⟨#[73]⟩, .string ⟨#[66, 97, 115, 101]⟩, .string ⟨#[79, 98, 106, 101, 99, 116]⟩, .string ⟨#[67]⟩] : Array Value)[((n : Int).tmod 6).toNat]? = some (.string (selT (n : Int) 6 [⟨#[66]⟩, ⟨#[77, 105, 100]⟩, ⟨#[73]⟩, ⟨#[66, 97, 115, 101]⟩, ⟨#[79, 98, 106, 101, 99, 116]⟩, ⟨#[67]⟩])) := by
  rw [Int.tmod_eq_emod_of_nonneg (Int.natCast_nonneg n)]; unfold selT
  obtain ⟨j, hj, h⟩ : ∃ j : Nat, j < 6 /\ (n : Int) % 6 = (j : Int) := ⟨n % 6, by omega, by omega⟩
  rw [h]
  match j, hj with
  | 0, _ => rfl
  | 1, _ => rfl
  | 2, _ => rfl
  | 3, _ => rfl
  | 4, _ => rfl
  | 5, _ => rfl
 have HCV := hid hcv
 clear hcv
 have HE : Hid (snip 32 (n : Int) st = bAdd [iAt 4 3, iOf 31 (selT (n : Int) 6 [⟨#[66]⟩, ⟨#[77, 105, 100]⟩, ⟨#[73]⟩, ⟨#[66, 97, 115, 101]⟩, ⟨#[79, 98, 106, 101, 99, 116]⟩, ⟨#[67]⟩]), iAt 5 0] st) := hid (rfl)
 go_enter Tryz.func65, Tryz.ntmps65
 try simp only [List.append_eq, List.cons_append, List.nil_append]
 go_wp2_with fail
 refine (at_x _ _ _).mono ?_
 rintro e w1 ⟨rfl, hb⟩
 replace HB := hid (HB.out.next hb)
 clear hb c0 q0
 have HT := hid (TC.made w1)
 replace HB := hid (HB.out.bt.lit (.cells #[.int .i64 4, .int .i32 0, .int .i64 3, .string ⟨#[]⟩, .string ⟨#[]⟩, .string ⟨#[]⟩, .string ⟨#[]⟩] 61))
 go_wp2_with fail
 obtain ⟨w2, hw2⟩ : ∃ x, x = w1.alloc (.cells #[.int .i64 4, .int .i32 0, .int .i64 3, .string ⟨#[]⟩, .string ⟨#[]⟩, .string ⟨#[]⟩, .string ⟨#[]⟩] 61) := ⟨_, rfl⟩
 obtain ⟨tb, htb⟩ : ∃ x, x = w1.heap.size := ⟨_, rfl⟩
 rw [<- hw2, <- htb] at HB HT
 try rw [<- hw2]
 try rw [<- htb]
 clear hw2 htb
 replace HB := hid (HB.out.next (below_dr w2))
 replace HT := hid (HT.out.next (below_dr w2))
 refine wp_region_held_drew (S := fun w' => w'.cell? ⟨tb, 0, none⟩ = some (.int .i64 4) /\ w'.cell? ⟨tb, 1, none⟩ = some (.int .i32 0) /\ w'.cell? ⟨tb, 2, none⟩ = some (.int .i64 3) /\ w'.cell? ⟨tb, 3, none⟩ = some (.string ⟨#[]⟩) /\ w'.cell? ⟨tb, 4, none⟩ = some (.string ⟨#[]⟩) /\ w'.cell? ⟨tb, 5, none⟩ = some (.string ⟨#[]⟩) /\ w'.cell? ⟨tb, 6, none⟩ = some (.string ⟨#[]⟩)) (by kernel_rfl) (z7c HT.out.2) (fun hh => ?_)
 refine tkA 0 _ hh ?_
 try go_frame
 refine tkB 1 _ hh ?_
 try go_frame
 refine tkA 3 _ hh ?_
 try go_frame
 refine tkA 4 _ hh ?_
 try go_frame
 refine rdH [2] ?_
 refine rcH (fun K hK => ?_) AllReadyH.nil
 clear hh
 go_simp
 replace HB := hid (HB.out.lit (.cells #[.string ⟨#[66]⟩, .string ⟨#[77, 105, 100]⟩, .string ⟨#[73]⟩, .string ⟨#[66, 97, 115, 101]⟩, .string ⟨#[79, 98, 106, 101, 99, 116]⟩, .string ⟨#[67]⟩] 9))
 replace HT := hid (HT.out.next (below_al _ (.cells #[.string ⟨#[66]⟩, .string ⟨#[77, 105, 100]⟩, .string ⟨#[73]⟩, .string ⟨#[66, 97, 115, 101]⟩, .string ⟨#[79, 98, 106, 101, 99, 116]⟩, .string ⟨#[67]⟩] 9)))
 have HV := hid (CV.made (w := w2.drew) (cs := #[.string ⟨#[66]⟩, .string ⟨#[77, 105, 100]⟩, .string ⟨#[73]⟩, .string ⟨#[66, 97, 115, 101]⟩, .string ⟨#[79, 98, 106, 101, 99, 116]⟩, .string ⟨#[67]⟩]) (T := 9) (i := ((n : Int).tmod 6).toNat) (v := .string (selT (n : Int) 6 [⟨#[66]⟩, ⟨#[77, 105, 100]⟩, ⟨#[73]⟩, ⟨#[66, 97, 115, 101]⟩, ⟨#[79, 98, 106, 101, 99, 116]⟩, ⟨#[67]⟩])) HCV.out)
 refine hK.out _ _ (z7c HT.out.2) (fun hh => ?_)
 clear hK K
 try go_frame
 refine tkA 5 _ hh ?_
 try go_frame
 refine wpAnyH_and (T := fun W => W.cell? ⟨w2.heap.size, ((n : Int).tmod 6).toNat, none⟩ = some (.string (selT (n : Int) 6 [⟨#[66]⟩, ⟨#[77, 105, 100]⟩, ⟨#[73]⟩, ⟨#[66, 97, 115, 101]⟩, ⟨#[79, 98, 106, 101, 99, 116]⟩, ⟨#[67]⟩]))) _ _ _ _ ?_
 replace hh := And.intro hh (HV.out.2)
 refine tkH 6 ?_ (fun W hSw => ?_) hh ?_
 rotate_left 1
 ·(have hT := hSw.2; clear hSw; first | (go_simp; done) | (go_simp; with_reducible rfl))
 try go_frame
 refine rdH [7] ?_
 refine rcH (fun K hK => ?_) AllReadyH.nil
 clear hh
 go_simp
 refine (of_x _ _ _).mono ?_
 rintro e x7 ⟨rfl, hb⟩
 replace HB := hid (HB.out.next hb)
 replace HT := hid (HT.out.next hb)
 replace HV := hid (HV.out.next hb)
 clear hb
 refine hK.out _ _ ⟨(z7c HT.out.2), HV.out.2⟩ (fun hh => ?_)
 clear hK K
 try go_frame
 refine rdH [8] ?_
 refine rcH (fun K hK => ?_) AllReadyH.nil
 clear hh
 go_simp
 refine (at_x _ _ _).mono ?_
 rintro e x8 ⟨rfl, hb⟩
 replace HB := hid (HB.out.next hb)
 replace HT := hid (HT.out.next hb)
 replace HV := hid (HV.out.next hb)
 clear hb
 refine hK.out _ _ ⟨(z7c HT.out.2), HV.out.2⟩ (fun hh => ?_)
 clear hK K
 try go_frame
 refine rdH [9] ?_
 refine rcH (fun K hK => ?_) AllReadyH.nil
 clear hh
 go_simp
 refine hK.out _ _ ⟨(z7c (HT.out.next (below_al _ _)).2), (HV.out.next (below_al _ _)).2⟩ (fun hh => ?_)
 clear hK K
 try go_frame
 refine rdH [10] ?_
 refine rcH (fun K hK => ?_) AllReadyH.nil
 clear hh
 go_simp
 refine (add_t HB.out [iAt 4 3, iOf 31 (selT (n : Int) 6 [⟨#[66]⟩, ⟨#[77, 105, 100]⟩, ⟨#[73]⟩, ⟨#[66, 97, 115, 101]⟩, ⟨#[79, 98, 106, 101, 99, 116]⟩, ⟨#[67]⟩]), iAt 5 0] _ rfl _ rfl (by simp [bAdd, bTry]; omega)).mono ?_
 rintro e w' ⟨rfl, H1, H2, H3⟩
 replace HT := hid ((HT.out.next (below_al _ _)).same H2 (H3 _ (by simp)))
 replace HV := hid ((HV.out.next (below_al _ _)).same H2 (H3 _ (by simp)))
 replace HB := hid H1
 clear H1 H2 H3
 refine hK.out _ _ ⟨(z7c HT.out.2), HV.out.2⟩ (fun hh => ?_)
 clear hK K
 try go_frame
 refine wpAnyH_done (by kernel_rfl) ?_ _
 replace HB := hid HB.out.bs
 clear HT
 clear HV
 go_wp2_with fail
 exact bodyPost_end (results_none rfl _ _ _) rfl ⟨rfl, by rw [HE.out]; exact HB.out⟩
theorem snip_33 : SnO 33 33 := by
 intro B bb st w0 w H n hn hl hl2
 obtain ⟨p, cap, q0, c0⟩ := H.len
 have HB := hid H
 clear H
 have hm0 : n / 4 % 2 = 0 ∨ n / 4 % 2 = 1 := by omega
 rcases hm0 with h0 | h0
 ·have hi0 : (n : Int) / 4 % 2 = 0 := by omega
  have hs0 : selT ((n : Int) / 4) 2 [⟨#[67, 97, 115, 116, 70, 97, 117, 108, 116]⟩, ⟨#[70, 97, 117, 108, 116]⟩] = ⟨#[67, 97, 115, 116, 70, 97, 117, 108, 116]⟩ := by unfold selT; rw [hi0]; rfl
  have hq : 0 <= (n : Int).tmod 4 /\ (n : Int).tmod 4 < 4 := by rw [Int.tmod_eq_emod_of_nonneg (Int.natCast_nonneg n)]; omega
  have hcv : (#[.string ⟨#[66]⟩, .string ⟨#[77, 105, 100]⟩, .string ⟨#[65]⟩, .string ⟨#[68]⟩] : Array Value)[((n : Int).tmod 4).toNat]? = some (.string (selT (n : Int) 4 [⟨#[66]⟩, ⟨#[77, 105, 100]⟩, ⟨#[65]⟩, ⟨#[68]⟩])) := by
   rw [Int.tmod_eq_emod_of_nonneg (Int.natCast_nonneg n)]; unfold selT
   obtain ⟨j, hj, h⟩ : ∃ j : Nat, j < 4 /\ (n : Int) % 4 = (j : Int) := ⟨n % 4, by omega, by omega⟩
   rw [h]
   match j, hj with
   | 0, _ => rfl
   | 1, _ => rfl
   | 2, _ => rfl
   | 3, _ => rfl
  have HCV := hid hcv
  clear hcv
  have HE : Hid (snip 33 (n : Int) st = bTry st.1.length ⟨#[67, 97, 115, 116, 70, 97, 117, 108, 116]⟩ ⟨#[99, 97, 115, 116]⟩ (bAdd [iAt 4 3, iOf 30 (selT (n : Int) 4 [⟨#[66]⟩, ⟨#[77, 105, 100]⟩, ⟨#[65]⟩, ⟨#[68]⟩]), iAt 5 3] st)) := hid (by simp only [snip, hs0])
  clear hs0
  go_enter Tryz.func65, Tryz.ntmps65
  try simp only [List.append_eq, List.cons_append, List.nil_append]
  go_wp2_with fail
  refine (at_x _ _ _).mono ?_
  rintro e w1 ⟨rfl, hb⟩
  replace HB := hid (HB.out.next hb)
  clear hb c0 q0
  have HT := hid (TC.made w1)
  replace HB := hid (HB.out.bt.lit (.cells #[.int .i64 4, .int .i32 0, .int .i64 3, .string ⟨#[]⟩, .string ⟨#[]⟩, .string ⟨#[]⟩, .string ⟨#[]⟩] 61))
  go_wp2_with fail
  obtain ⟨w2, hw2⟩ : ∃ x, x = w1.alloc (.cells #[.int .i64 4, .int .i32 0, .int .i64 3, .string ⟨#[]⟩, .string ⟨#[]⟩, .string ⟨#[]⟩, .string ⟨#[]⟩] 61) := ⟨_, rfl⟩
  obtain ⟨tb, htb⟩ : ∃ x, x = w1.heap.size := ⟨_, rfl⟩
  rw [<- hw2, <- htb] at HB HT
  try rw [<- hw2]
  try rw [<- htb]
  clear hw2 htb
  replace HB := hid (HB.out.next (below_dr w2))
  replace HT := hid (HT.out.next (below_dr w2))
  refine wp_region_held_drew (S := fun w' => w'.cell? ⟨tb, 0, none⟩ = some (.int .i64 4) /\ w'.cell? ⟨tb, 1, none⟩ = some (.int .i32 0) /\ w'.cell? ⟨tb, 2, none⟩ = some (.int .i64 3) /\ w'.cell? ⟨tb, 3, none⟩ = some (.string ⟨#[]⟩) /\ w'.cell? ⟨tb, 4, none⟩ = some (.string ⟨#[]⟩) /\ w'.cell? ⟨tb, 5, none⟩ = some (.string ⟨#[]⟩) /\ w'.cell? ⟨tb, 6, none⟩ = some (.string ⟨#[]⟩)) (by kernel_rfl) (z7c HT.out.2) (fun hh => ?_)
  refine tkA 0 _ hh ?_
  try go_frame
  refine tkB 1 _ hh ?_
  try go_frame
  refine tkA 3 _ hh ?_
  try go_frame
  refine tkA 4 _ hh ?_
  try go_frame
  refine rdH [2] ?_
  refine rcH (fun K hK => ?_) AllReadyH.nil
  clear hh
  go_simp
  replace HB := hid (HB.out.lit (.cells #[.string ⟨#[66]⟩, .string ⟨#[77, 105, 100]⟩, .string ⟨#[65]⟩, .string ⟨#[68]⟩] 9))
  replace HT := hid (HT.out.next (below_al _ (.cells #[.string ⟨#[66]⟩, .string ⟨#[77, 105, 100]⟩, .string ⟨#[65]⟩, .string ⟨#[68]⟩] 9)))
  have HV := hid (CV.made (w := w2.drew) (cs := #[.string ⟨#[66]⟩, .string ⟨#[77, 105, 100]⟩, .string ⟨#[65]⟩, .string ⟨#[68]⟩]) (T := 9) (i := ((n : Int).tmod 4).toNat) (v := .string (selT (n : Int) 4 [⟨#[66]⟩, ⟨#[77, 105, 100]⟩, ⟨#[65]⟩, ⟨#[68]⟩])) HCV.out)
  refine hK.out _ _ (z7c HT.out.2) (fun hh => ?_)
  clear hK K
  try go_frame
  refine tkA 5 _ hh ?_
  try go_frame
  refine wpAnyH_and (T := fun W => W.cell? ⟨w2.heap.size, ((n : Int).tmod 4).toNat, none⟩ = some (.string (selT (n : Int) 4 [⟨#[66]⟩, ⟨#[77, 105, 100]⟩, ⟨#[65]⟩, ⟨#[68]⟩]))) _ _ _ _ ?_
  replace hh := And.intro hh (HV.out.2)
  refine tkH 6 ?_ (fun W hSw => ?_) hh ?_
  rotate_left 1
  ·(have hT := hSw.2; clear hSw; first | (go_simp; done) | (go_simp; with_reducible rfl))
  try go_frame
  refine rdH [7] ?_
  refine rcH (fun K hK => ?_) AllReadyH.nil
  clear hh
  go_simp
  refine (of_x _ _ _).mono ?_
  rintro e x7 ⟨rfl, hb⟩
  replace HB := hid (HB.out.next hb)
  replace HT := hid (HT.out.next hb)
  replace HV := hid (HV.out.next hb)
  clear hb
  refine hK.out _ _ ⟨(z7c HT.out.2), HV.out.2⟩ (fun hh => ?_)
  clear hK K
  try go_frame
  refine rdH [8] ?_
  refine rcH (fun K hK => ?_) AllReadyH.nil
  clear hh
  go_simp
  refine (at_x _ _ _).mono ?_
  rintro e x8 ⟨rfl, hb⟩
  replace HB := hid (HB.out.next hb)
  replace HT := hid (HT.out.next hb)
  replace HV := hid (HV.out.next hb)
  clear hb
  refine hK.out _ _ ⟨(z7c HT.out.2), HV.out.2⟩ (fun hh => ?_)
  clear hK K
  try go_frame
  refine rdH [9] ?_
  refine rcH (fun K hK => ?_) AllReadyH.nil
  clear hh
  go_simp
  refine hK.out _ _ ⟨(z7c (HT.out.next (below_al _ _)).2), (HV.out.next (below_al _ _)).2⟩ (fun hh => ?_)
  clear hK K
  try go_frame
  refine rdH [10] ?_
  refine rcH (fun K hK => ?_) AllReadyH.nil
  clear hh
  go_simp
  refine (add_t HB.out [iAt 4 3, iOf 30 (selT (n : Int) 4 [⟨#[66]⟩, ⟨#[77, 105, 100]⟩, ⟨#[65]⟩, ⟨#[68]⟩]), iAt 5 3] _ rfl _ rfl (by simp [bAdd, bTry]; omega)).mono ?_
  rintro e w' ⟨rfl, H1, H2, H3⟩
  replace HT := hid ((HT.out.next (below_al _ _)).same H2 (H3 _ (by simp)))
  replace HV := hid ((HV.out.next (below_al _ _)).same H2 (H3 _ (by simp)))
  replace HB := hid H1
  clear H1 H2 H3
  refine hK.out _ _ ⟨(z7c HT.out.2), HV.out.2⟩ (fun hh => ?_)
  clear hK K
  try go_frame
  refine wpAnyH_done (by kernel_rfl) ?_ _
  replace HB := hid HB.out.bs
  clear HT
  clear HV
  go_wp2_with (fail)
  refine (try_s (HB.out.lit _) st.1.length ⟨#[67, 97, 115, 116, 70, 97, 117, 108, 116]⟩ ⟨#[99, 97, 115, 116]⟩ (by omega) (by simp [bAdd, bTry]; omega) (by simp [bAdd, bTry]; omega)).mono ?_
  rintro e w' ⟨rfl, H1⟩
  replace HB := hid H1
  clear H1
  go_wp2_with fail
  exact bodyPost_end (results_none rfl _ _ _) rfl ⟨rfl, by rw [HE.out]; exact HB.out⟩
 ·have hi0 : (n : Int) / 4 % 2 = 1 := by omega
  have hs0 : selT ((n : Int) / 4) 2 [⟨#[67, 97, 115, 116, 70, 97, 117, 108, 116]⟩, ⟨#[70, 97, 117, 108, 116]⟩] = ⟨#[70, 97, 117, 108, 116]⟩ := by unfold selT; rw [hi0]; rfl
  have hq : 0 <= (n : Int).tmod 4 /\ (n : Int).tmod 4 < 4 := by rw [Int.tmod_eq_emod_of_nonneg (Int.natCast_nonneg n)]; omega
  have hcv : (#[.string ⟨#[66]⟩, .string ⟨#[77, 105, 100]⟩, .string ⟨#[65]⟩, .string ⟨#[68]⟩] : Array Value)[((n : Int).tmod 4).toNat]? = some (.string (selT (n : Int) 4 [⟨#[66]⟩, ⟨#[77, 105, 100]⟩, ⟨#[65]⟩, ⟨#[68]⟩])) := by
   rw [Int.tmod_eq_emod_of_nonneg (Int.natCast_nonneg n)]; unfold selT
   obtain ⟨j, hj, h⟩ : ∃ j : Nat, j < 4 /\ (n : Int) % 4 = (j : Int) := ⟨n % 4, by omega, by omega⟩
   rw [h]
   match j, hj with
   | 0, _ => rfl
   | 1, _ => rfl
   | 2, _ => rfl
   | 3, _ => rfl
  have HCV := hid hcv
  clear hcv
  have HE : Hid (snip 33 (n : Int) st = bTry st.1.length ⟨#[70, 97, 117, 108, 116]⟩ ⟨#[99, 97, 115, 116]⟩ (bAdd [iAt 4 3, iOf 30 (selT (n : Int) 4 [⟨#[66]⟩, ⟨#[77, 105, 100]⟩, ⟨#[65]⟩, ⟨#[68]⟩]), iAt 5 3] st)) := hid (by simp only [snip, hs0])
  clear hs0
  go_enter Tryz.func65, Tryz.ntmps65
  try simp only [List.append_eq, List.cons_append, List.nil_append]
  go_wp2_with fail
  refine (at_x _ _ _).mono ?_
  rintro e w1 ⟨rfl, hb⟩
  replace HB := hid (HB.out.next hb)
  clear hb c0 q0
  have HT := hid (TC.made w1)
  replace HB := hid (HB.out.bt.lit (.cells #[.int .i64 4, .int .i32 0, .int .i64 3, .string ⟨#[]⟩, .string ⟨#[]⟩, .string ⟨#[]⟩, .string ⟨#[]⟩] 61))
  go_wp2_with fail
  obtain ⟨w2, hw2⟩ : ∃ x, x = w1.alloc (.cells #[.int .i64 4, .int .i32 0, .int .i64 3, .string ⟨#[]⟩, .string ⟨#[]⟩, .string ⟨#[]⟩, .string ⟨#[]⟩] 61) := ⟨_, rfl⟩
  obtain ⟨tb, htb⟩ : ∃ x, x = w1.heap.size := ⟨_, rfl⟩
  rw [<- hw2, <- htb] at HB HT
  try rw [<- hw2]
  try rw [<- htb]
  clear hw2 htb
  replace HB := hid (HB.out.next (below_dr w2))
  replace HT := hid (HT.out.next (below_dr w2))
  refine wp_region_held_drew (S := fun w' => w'.cell? ⟨tb, 0, none⟩ = some (.int .i64 4) /\ w'.cell? ⟨tb, 1, none⟩ = some (.int .i32 0) /\ w'.cell? ⟨tb, 2, none⟩ = some (.int .i64 3) /\ w'.cell? ⟨tb, 3, none⟩ = some (.string ⟨#[]⟩) /\ w'.cell? ⟨tb, 4, none⟩ = some (.string ⟨#[]⟩) /\ w'.cell? ⟨tb, 5, none⟩ = some (.string ⟨#[]⟩) /\ w'.cell? ⟨tb, 6, none⟩ = some (.string ⟨#[]⟩)) (by kernel_rfl) (z7c HT.out.2) (fun hh => ?_)
  refine tkA 0 _ hh ?_
  try go_frame
  refine tkB 1 _ hh ?_
  try go_frame
  refine tkA 3 _ hh ?_
  try go_frame
  refine tkA 4 _ hh ?_
  try go_frame
  refine rdH [2] ?_
  refine rcH (fun K hK => ?_) AllReadyH.nil
  clear hh
  go_simp
  replace HB := hid (HB.out.lit (.cells #[.string ⟨#[66]⟩, .string ⟨#[77, 105, 100]⟩, .string ⟨#[65]⟩, .string ⟨#[68]⟩] 9))
  replace HT := hid (HT.out.next (below_al _ (.cells #[.string ⟨#[66]⟩, .string ⟨#[77, 105, 100]⟩, .string ⟨#[65]⟩, .string ⟨#[68]⟩] 9)))
  have HV := hid (CV.made (w := w2.drew) (cs := #[.string ⟨#[66]⟩, .string ⟨#[77, 105, 100]⟩, .string ⟨#[65]⟩, .string ⟨#[68]⟩]) (T := 9) (i := ((n : Int).tmod 4).toNat) (v := .string (selT (n : Int) 4 [⟨#[66]⟩, ⟨#[77, 105, 100]⟩, ⟨#[65]⟩, ⟨#[68]⟩])) HCV.out)
  refine hK.out _ _ (z7c HT.out.2) (fun hh => ?_)
  clear hK K
  try go_frame
  refine tkA 5 _ hh ?_
  try go_frame
  refine wpAnyH_and (T := fun W => W.cell? ⟨w2.heap.size, ((n : Int).tmod 4).toNat, none⟩ = some (.string (selT (n : Int) 4 [⟨#[66]⟩, ⟨#[77, 105, 100]⟩, ⟨#[65]⟩, ⟨#[68]⟩]))) _ _ _ _ ?_
  replace hh := And.intro hh (HV.out.2)
  refine tkH 6 ?_ (fun W hSw => ?_) hh ?_
  rotate_left 1
  ·(have hT := hSw.2; clear hSw; first | (go_simp; done) | (go_simp; with_reducible rfl))
  try go_frame
  refine rdH [7] ?_
  refine rcH (fun K hK => ?_) AllReadyH.nil
  clear hh
  go_simp
  refine (of_x _ _ _).mono ?_
  rintro e x7 ⟨rfl, hb⟩
  replace HB := hid (HB.out.next hb)
  replace HT := hid (HT.out.next hb)
  replace HV := hid (HV.out.next hb)
  clear hb
  refine hK.out _ _ ⟨(z7c HT.out.2), HV.out.2⟩ (fun hh => ?_)
  clear hK K
  try go_frame
  refine rdH [8] ?_
  refine rcH (fun K hK => ?_) AllReadyH.nil
  clear hh
  go_simp
  refine (at_x _ _ _).mono ?_
  rintro e x8 ⟨rfl, hb⟩
  replace HB := hid (HB.out.next hb)
  replace HT := hid (HT.out.next hb)
  replace HV := hid (HV.out.next hb)
  clear hb
  refine hK.out _ _ ⟨(z7c HT.out.2), HV.out.2⟩ (fun hh => ?_)
  clear hK K
  try go_frame
  refine rdH [9] ?_
  refine rcH (fun K hK => ?_) AllReadyH.nil
  clear hh
  go_simp
  refine hK.out _ _ ⟨(z7c (HT.out.next (below_al _ _)).2), (HV.out.next (below_al _ _)).2⟩ (fun hh => ?_)
  clear hK K
  try go_frame
  refine rdH [10] ?_
  refine rcH (fun K hK => ?_) AllReadyH.nil
  clear hh
  go_simp
  refine (add_t HB.out [iAt 4 3, iOf 30 (selT (n : Int) 4 [⟨#[66]⟩, ⟨#[77, 105, 100]⟩, ⟨#[65]⟩, ⟨#[68]⟩]), iAt 5 3] _ rfl _ rfl (by simp [bAdd, bTry]; omega)).mono ?_
  rintro e w' ⟨rfl, H1, H2, H3⟩
  replace HT := hid ((HT.out.next (below_al _ _)).same H2 (H3 _ (by simp)))
  replace HV := hid ((HV.out.next (below_al _ _)).same H2 (H3 _ (by simp)))
  replace HB := hid H1
  clear H1 H2 H3
  refine hK.out _ _ ⟨(z7c HT.out.2), HV.out.2⟩ (fun hh => ?_)
  clear hK K
  try go_frame
  refine wpAnyH_done (by kernel_rfl) ?_ _
  replace HB := hid HB.out.bs
  clear HT
  clear HV
  go_wp2_with (fail)
  refine (try_s (HB.out.lit _) st.1.length ⟨#[70, 97, 117, 108, 116]⟩ ⟨#[99, 97, 115, 116]⟩ (by omega) (by simp [bAdd, bTry]; omega) (by simp [bAdd, bTry]; omega)).mono ?_
  rintro e w' ⟨rfl, H1⟩
  replace HB := hid H1
  clear H1
  go_wp2_with fail
  exact bodyPost_end (results_none rfl _ _ _) rfl ⟨rfl, by rw [HE.out]; exact HB.out⟩
theorem snip_34 : SnO 34 34 := by
 intro B bb st w0 w H n hn hl hl2
 obtain ⟨p, cap, q0, c0⟩ := H.len
 have HB := hid H
 clear H
 have HE : Hid (snip 34 (n : Int) st = bAdd [iAt 4 3, iAt 4 3, iPart 26 ⟨#[66, 97, 115, 101]⟩ ⟨#[110, 101, 120, 116]⟩, iOne 32, iAt 5 0] st) := hid (rfl)
 go_enter Tryz.func65, Tryz.ntmps65
 try simp only [List.append_eq, List.cons_append, List.nil_append]
 go_wp2_with fail
 refine (at_x _ _ _).mono ?_
 rintro e w1 ⟨rfl, hb⟩
 replace HB := hid (HB.out.next hb)
 clear hb c0 q0
 have HT := hid (TC.made w1)
 replace HB := hid (HB.out.bt.lit (.cells #[.int .i64 4, .int .i32 0, .int .i64 3, .string ⟨#[]⟩, .string ⟨#[]⟩, .string ⟨#[]⟩, .string ⟨#[]⟩] 61))
 go_wp2_with fail
 obtain ⟨w2, hw2⟩ : ∃ x, x = w1.alloc (.cells #[.int .i64 4, .int .i32 0, .int .i64 3, .string ⟨#[]⟩, .string ⟨#[]⟩, .string ⟨#[]⟩, .string ⟨#[]⟩] 61) := ⟨_, rfl⟩
 obtain ⟨tb, htb⟩ : ∃ x, x = w1.heap.size := ⟨_, rfl⟩
 rw [<- hw2, <- htb] at HB HT
 try rw [<- hw2]
 try rw [<- htb]
 clear hw2 htb
 replace HB := hid (HB.out.next (below_dr w2))
 replace HT := hid (HT.out.next (below_dr w2))
 refine wp_region_held_drew (S := fun w' => w'.cell? ⟨tb, 0, none⟩ = some (.int .i64 4) /\ w'.cell? ⟨tb, 1, none⟩ = some (.int .i32 0) /\ w'.cell? ⟨tb, 2, none⟩ = some (.int .i64 3) /\ w'.cell? ⟨tb, 3, none⟩ = some (.string ⟨#[]⟩) /\ w'.cell? ⟨tb, 4, none⟩ = some (.string ⟨#[]⟩) /\ w'.cell? ⟨tb, 5, none⟩ = some (.string ⟨#[]⟩) /\ w'.cell? ⟨tb, 6, none⟩ = some (.string ⟨#[]⟩)) (by kernel_rfl) (z7c HT.out.2) (fun hh => ?_)
 refine tkA 0 _ hh ?_
 try go_frame
 refine tkB 1 _ hh ?_
 try go_frame
 refine tkB 2 _ hh ?_
 try go_frame
 refine rdH [3] ?_
 refine rcH (fun K hK => ?_) AllReadyH.nil
 clear hh
 go_simp
 refine (part_x _ _ _ _).mono ?_
 rintro e x3 ⟨rfl, hb⟩
 replace HB := hid (HB.out.next hb)
 replace HT := hid (HT.out.next hb)
 clear hb
 refine hK.out _ _ (z7c HT.out.2) (fun hh => ?_)
 clear hK K
 try go_frame
 refine rdH [4] ?_
 refine rcH (fun K hK => ?_) AllReadyH.nil
 clear hh
 go_simp
 refine (one_x _ _).mono ?_
 rintro e x4 ⟨rfl, hb⟩
 replace HB := hid (HB.out.next hb)
 replace HT := hid (HT.out.next hb)
 clear hb
 refine hK.out _ _ (z7c HT.out.2) (fun hh => ?_)
 clear hK K
 try go_frame
 refine rdH [5] ?_
 refine rcH (fun K hK => ?_) AllReadyH.nil
 clear hh
 go_simp
 refine (at_x _ _ _).mono ?_
 rintro e x5 ⟨rfl, hb⟩
 replace HB := hid (HB.out.next hb)
 replace HT := hid (HT.out.next hb)
 clear hb
 refine hK.out _ _ (z7c HT.out.2) (fun hh => ?_)
 clear hK K
 try go_frame
 refine rdH [6] ?_
 refine rcH (fun K hK => ?_) AllReadyH.nil
 clear hh
 go_simp
 refine hK.out _ _ (z7c (HT.out.next (below_al _ _)).2) (fun hh => ?_)
 clear hK K
 try go_frame
 refine rdH [7] ?_
 refine rcH (fun K hK => ?_) AllReadyH.nil
 clear hh
 go_simp
 refine (add_t HB.out [iAt 4 3, iAt 4 3, iPart 26 ⟨#[66, 97, 115, 101]⟩ ⟨#[110, 101, 120, 116]⟩, iOne 32, iAt 5 0] _ rfl _ rfl (by simp [bAdd, bTry]; omega)).mono ?_
 rintro e w' ⟨rfl, H1, H2, H3⟩
 replace HT := hid ((HT.out.next (below_al _ _)).same H2 (H3 _ (by simp)))
 replace HB := hid H1
 clear H1 H2 H3
 refine hK.out _ _ (z7c HT.out.2) (fun hh => ?_)
 clear hK K
 try go_frame
 refine wpAnyH_done (by kernel_rfl) ?_ _
 replace HB := hid HB.out.bs
 clear HT
 go_wp2_with fail
 exact bodyPost_end (results_none rfl _ _ _) rfl ⟨rfl, by rw [HE.out]; exact HB.out⟩
theorem snip_35 : SnO 35 35 := by
 intro B bb st w0 w H n hn hl hl2
 obtain ⟨p, cap, q0, c0⟩ := H.len
 have HB := hid H
 clear H
 have HE : Hid (snip 35 (n : Int) st = bTry st.1.length ⟨#[78, 117, 108, 108, 70, 97, 117, 108, 116]⟩ ⟨#[99, 104, 101, 99, 107]⟩ (bAdd [iAt 4 3, iOne 33] st)) := hid (rfl)
 go_enter Tryz.func65, Tryz.ntmps65
 try simp only [List.append_eq, List.cons_append, List.nil_append]
 go_wp2_with fail
 refine (at_x _ _ _).mono ?_
 rintro e w1 ⟨rfl, hb⟩
 replace HB := hid (HB.out.next hb)
 clear hb c0 q0
 have HT := hid (TC.made w1)
 replace HB := hid (HB.out.bt.lit (.cells #[.int .i64 4, .int .i32 0, .int .i64 3, .string ⟨#[]⟩, .string ⟨#[]⟩, .string ⟨#[]⟩, .string ⟨#[]⟩] 61))
 go_wp2_with fail
 obtain ⟨w2, hw2⟩ : ∃ x, x = w1.alloc (.cells #[.int .i64 4, .int .i32 0, .int .i64 3, .string ⟨#[]⟩, .string ⟨#[]⟩, .string ⟨#[]⟩, .string ⟨#[]⟩] 61) := ⟨_, rfl⟩
 obtain ⟨tb, htb⟩ : ∃ x, x = w1.heap.size := ⟨_, rfl⟩
 rw [<- hw2, <- htb] at HB HT
 try rw [<- hw2]
 try rw [<- htb]
 clear hw2 htb
 replace HB := hid (HB.out.next (below_dr w2))
 replace HT := hid (HT.out.next (below_dr w2))
 refine wp_region_held_drew (S := fun w' => w'.cell? ⟨tb, 0, none⟩ = some (.int .i64 4) /\ w'.cell? ⟨tb, 1, none⟩ = some (.int .i32 0) /\ w'.cell? ⟨tb, 2, none⟩ = some (.int .i64 3) /\ w'.cell? ⟨tb, 3, none⟩ = some (.string ⟨#[]⟩) /\ w'.cell? ⟨tb, 4, none⟩ = some (.string ⟨#[]⟩) /\ w'.cell? ⟨tb, 5, none⟩ = some (.string ⟨#[]⟩) /\ w'.cell? ⟨tb, 6, none⟩ = some (.string ⟨#[]⟩)) (by kernel_rfl) (z7c HT.out.2) (fun hh => ?_)
 refine tkA 0 _ hh ?_
 try go_frame
 refine tkB 1 _ hh ?_
 try go_frame
 refine rdH [2] ?_
 refine rcH (fun K hK => ?_) AllReadyH.nil
 clear hh
 go_simp
 refine (one_x _ _).mono ?_
 rintro e x2 ⟨rfl, hb⟩
 replace HB := hid (HB.out.next hb)
 replace HT := hid (HT.out.next hb)
 clear hb
 refine hK.out _ _ (z7c HT.out.2) (fun hh => ?_)
 clear hK K
 try go_frame
 refine rdH [3] ?_
 refine rcH (fun K hK => ?_) AllReadyH.nil
 clear hh
 go_simp
 refine hK.out _ _ (z7c (HT.out.next (below_al _ _)).2) (fun hh => ?_)
 clear hK K
 try go_frame
 refine rdH [4] ?_
 refine rcH (fun K hK => ?_) AllReadyH.nil
 clear hh
 go_simp
 refine (add_t HB.out [iAt 4 3, iOne 33] _ rfl _ rfl (by simp [bAdd, bTry]; omega)).mono ?_
 rintro e w' ⟨rfl, H1, H2, H3⟩
 replace HT := hid ((HT.out.next (below_al _ _)).same H2 (H3 _ (by simp)))
 replace HB := hid H1
 clear H1 H2 H3
 refine hK.out _ _ (z7c HT.out.2) (fun hh => ?_)
 clear hK K
 try go_frame
 refine wpAnyH_done (by kernel_rfl) ?_ _
 replace HB := hid HB.out.bs
 clear HT
 go_wp2_with (fail)
 refine (try_s HB.out st.1.length ⟨#[78, 117, 108, 108, 70, 97, 117, 108, 116]⟩ ⟨#[99, 104, 101, 99, 107]⟩ (by omega) (by simp [bAdd, bTry]; omega) (by simp [bAdd, bTry]; omega)).mono ?_
 rintro e w' ⟨rfl, H1⟩
 replace HB := hid H1
 clear H1
 go_wp2_with fail
 exact bodyPost_end (results_none rfl _ _ _) rfl ⟨rfl, by rw [HE.out]; exact HB.out⟩
theorem snip_36 : SnO 36 36 := by
 intro B bb st w0 w H n hn hl hl2
 obtain ⟨p, cap, q0, c0⟩ := H.len
 have HB := hid H
 clear H
 have HE : Hid (snip 36 (n : Int) st = bAdd [iOf 25 ⟨#[67]⟩, iOne 7, iNum (n : Int), iPart 27 ⟨#[77, 105, 100]⟩ ⟨#[109]⟩, iCall 34 ⟨#[67]⟩ ⟨#[101, 120, 116, 114, 97]⟩ ⟨#[40, 41, 73]⟩, iAt 5 0] st) := hid (rfl)
 go_enter Tryz.func65, Tryz.ntmps65
 try simp only [List.append_eq, List.cons_append, List.nil_append]
 go_wp2_with fail
 refine (at_x _ _ _).mono ?_
 rintro e w1 ⟨rfl, hb⟩
 replace HB := hid (HB.out.next hb)
 clear hb c0 q0
 replace HB := hid (HB.out.lit (.cells #[.int .i64 4, .int .i32 0, .int .i64 3, .string ⟨#[]⟩, .string ⟨#[]⟩, .string ⟨#[]⟩, .string ⟨#[]⟩] 61))
 go_wp2_with ((first | (go_at_call 31; refine (one_x _ _).mono ?_) | (go_at_call 32; refine (at_x _ _ _).mono ?_) | (go_at_call 62; refine (num_x _ _ (by omega)).mono ?_) | (go_at_call 30; refine (of_x _ _ _).mono ?_) | (go_at_call 68; refine (part_x _ _ _ _).mono ?_) | (go_at_call 67; refine (call_x _ _ _ _ _).mono ?_)); rintro e w' ⟨rfl, hb⟩; (first | replace HB := hid (HB.out.next hb) | replace HB := hid ((HB.out.lit _).next hb)); clear hb)
 refine (add_s HB.out [iOf 25 ⟨#[67]⟩, iOne 7, iNum (n : Int), iPart 27 ⟨#[77, 105, 100]⟩ ⟨#[109]⟩, iCall 34 ⟨#[67]⟩ ⟨#[101, 120, 116, 114, 97]⟩ ⟨#[40, 41, 73]⟩, iAt 5 0] _ rfl _ rfl (by simp [bAdd, bTry]; omega)).mono ?_
 rintro e w' ⟨rfl, H1⟩
 replace HB := hid H1
 clear H1
 go_wp2_with fail
 exact bodyPost_end (results_none rfl _ _ _) rfl ⟨rfl, by rw [HE.out]; exact HB.out⟩
theorem snip_38 : SnO 38 38 := by
 intro B bb st w0 w H n hn hl hl2
 obtain ⟨p, cap, q0, c0⟩ := H.len
 have HB := hid H
 clear H
 have hm0 : n % 3 = 0 ∨ n % 3 = 1 ∨ n % 3 = 2 := by omega
 rcases hm0 with h0 | h0 | h0
 ·have hi0 : (n : Int) % 3 = 0 := by omega
  have hm1 : n % 2 = 0 ∨ n % 2 = 1 := by omega
  rcases hm1 with h1 | h1
  ·have hi1 : (n : Int) % 2 = 0 := by omega
   have hs0 : selT (n : Int) 2 [⟨#[69, 114, 114]⟩, ⟨#[70, 97, 117, 108, 116]⟩] = ⟨#[69, 114, 114]⟩ := by unfold selT; rw [hi1]; rfl
   have hs1 : selT (n : Int) 3 [⟨#[69, 114, 114]⟩, ⟨#[69, 114, 114, 50]⟩, ⟨#[66, 111, 117, 110, 100, 115, 70, 97, 117, 108, 116]⟩] = ⟨#[69, 114, 114]⟩ := by unfold selT; rw [hi0]; rfl
   have HE : Hid (snip 38 (n : Int) st = bTry st.1.length ⟨#[69, 114, 114]⟩ ⟨#[116, 104, 114, 111, 119, 110]⟩ (bAdd [iOf 25 ⟨#[69, 114, 114]⟩, iOne 38] st)) := hid (by simp only [snip, hs0, hs1])
   clear hs0 hs1
   go_enter Tryz.func65, Tryz.ntmps65
   try simp only [List.append_eq, List.cons_append, List.nil_append]
   go_wp2_with fail
   refine (at_x _ _ _).mono ?_
   rintro e w1 ⟨rfl, hb⟩
   replace HB := hid (HB.out.next hb)
   clear hb c0 q0
   replace HB := hid (HB.out.lit (.cells #[.int .i64 4, .int .i32 0, .int .i64 3, .string ⟨#[]⟩, .string ⟨#[]⟩, .string ⟨#[]⟩, .string ⟨#[]⟩] 61))
   go_wp2_with ((first | (go_at_call 31; refine (one_x _ _).mono ?_) | (go_at_call 30; refine (of_x _ _ _).mono ?_)); rintro e w' ⟨rfl, hb⟩; (first | replace HB := hid (HB.out.next hb) | replace HB := hid ((HB.out.lit _).next hb)); clear hb)
   refine (add_s HB.out [iOf 25 ⟨#[69, 114, 114]⟩, iOne 38] _ rfl _ rfl (by simp [bAdd, bTry]; omega)).mono ?_
   rintro e w' ⟨rfl, H1⟩
   replace HB := hid H1
   clear H1
   go_wp2_with (fail)
   refine (try_s (HB.out.lit _) st.1.length ⟨#[69, 114, 114]⟩ ⟨#[116, 104, 114, 111, 119, 110]⟩ (by omega) (by simp [bAdd, bTry]; omega) (by simp [bAdd, bTry]; omega)).mono ?_
   rintro e w' ⟨rfl, H1⟩
   replace HB := hid H1
   clear H1
   go_wp2_with fail
   exact bodyPost_end (results_none rfl _ _ _) rfl ⟨rfl, by rw [HE.out]; exact HB.out⟩
  ·have hi1 : (n : Int) % 2 = 1 := by omega
   have hs0 : selT (n : Int) 2 [⟨#[69, 114, 114]⟩, ⟨#[70, 97, 117, 108, 116]⟩] = ⟨#[70, 97, 117, 108, 116]⟩ := by unfold selT; rw [hi1]; rfl
   have hs1 : selT (n : Int) 3 [⟨#[69, 114, 114]⟩, ⟨#[69, 114, 114, 50]⟩, ⟨#[66, 111, 117, 110, 100, 115, 70, 97, 117, 108, 116]⟩] = ⟨#[69, 114, 114]⟩ := by unfold selT; rw [hi0]; rfl
   have HE : Hid (snip 38 (n : Int) st = bTry st.1.length ⟨#[70, 97, 117, 108, 116]⟩ ⟨#[116, 104, 114, 111, 119, 110]⟩ (bAdd [iOf 25 ⟨#[69, 114, 114]⟩, iOne 38] st)) := hid (by simp only [snip, hs0, hs1])
   clear hs0 hs1
   go_enter Tryz.func65, Tryz.ntmps65
   try simp only [List.append_eq, List.cons_append, List.nil_append]
   go_wp2_with fail
   refine (at_x _ _ _).mono ?_
   rintro e w1 ⟨rfl, hb⟩
   replace HB := hid (HB.out.next hb)
   clear hb c0 q0
   replace HB := hid (HB.out.lit (.cells #[.int .i64 4, .int .i32 0, .int .i64 3, .string ⟨#[]⟩, .string ⟨#[]⟩, .string ⟨#[]⟩, .string ⟨#[]⟩] 61))
   go_wp2_with ((first | (go_at_call 31; refine (one_x _ _).mono ?_) | (go_at_call 30; refine (of_x _ _ _).mono ?_)); rintro e w' ⟨rfl, hb⟩; (first | replace HB := hid (HB.out.next hb) | replace HB := hid ((HB.out.lit _).next hb)); clear hb)
   refine (add_s HB.out [iOf 25 ⟨#[69, 114, 114]⟩, iOne 38] _ rfl _ rfl (by simp [bAdd, bTry]; omega)).mono ?_
   rintro e w' ⟨rfl, H1⟩
   replace HB := hid H1
   clear H1
   go_wp2_with (fail)
   refine (try_s (HB.out.lit _) st.1.length ⟨#[70, 97, 117, 108, 116]⟩ ⟨#[116, 104, 114, 111, 119, 110]⟩ (by omega) (by simp [bAdd, bTry]; omega) (by simp [bAdd, bTry]; omega)).mono ?_
   rintro e w' ⟨rfl, H1⟩
   replace HB := hid H1
   clear H1
   go_wp2_with fail
   exact bodyPost_end (results_none rfl _ _ _) rfl ⟨rfl, by rw [HE.out]; exact HB.out⟩
 ·have hi0 : (n : Int) % 3 = 1 := by omega
  have hm1 : n % 2 = 0 ∨ n % 2 = 1 := by omega
  rcases hm1 with h1 | h1
  ·have hi1 : (n : Int) % 2 = 0 := by omega
   have hs0 : selT (n : Int) 2 [⟨#[69, 114, 114]⟩, ⟨#[70, 97, 117, 108, 116]⟩] = ⟨#[69, 114, 114]⟩ := by unfold selT; rw [hi1]; rfl
   have hs1 : selT (n : Int) 3 [⟨#[69, 114, 114]⟩, ⟨#[69, 114, 114, 50]⟩, ⟨#[66, 111, 117, 110, 100, 115, 70, 97, 117, 108, 116]⟩] = ⟨#[69, 114, 114, 50]⟩ := by unfold selT; rw [hi0]; rfl
   have HE : Hid (snip 38 (n : Int) st = bTry st.1.length ⟨#[69, 114, 114]⟩ ⟨#[116, 104, 114, 111, 119, 110]⟩ (bAdd [iOf 25 ⟨#[69, 114, 114, 50]⟩, iOne 38] st)) := hid (by simp only [snip, hs0, hs1])
   clear hs0 hs1
   go_enter Tryz.func65, Tryz.ntmps65
   try simp only [List.append_eq, List.cons_append, List.nil_append]
   go_wp2_with fail
   refine (at_x _ _ _).mono ?_
   rintro e w1 ⟨rfl, hb⟩
   replace HB := hid (HB.out.next hb)
   clear hb c0 q0
   replace HB := hid (HB.out.lit (.cells #[.int .i64 4, .int .i32 0, .int .i64 3, .string ⟨#[]⟩, .string ⟨#[]⟩, .string ⟨#[]⟩, .string ⟨#[]⟩] 61))
   go_wp2_with ((first | (go_at_call 31; refine (one_x _ _).mono ?_) | (go_at_call 30; refine (of_x _ _ _).mono ?_)); rintro e w' ⟨rfl, hb⟩; (first | replace HB := hid (HB.out.next hb) | replace HB := hid ((HB.out.lit _).next hb)); clear hb)
   refine (add_s HB.out [iOf 25 ⟨#[69, 114, 114, 50]⟩, iOne 38] _ rfl _ rfl (by simp [bAdd, bTry]; omega)).mono ?_
   rintro e w' ⟨rfl, H1⟩
   replace HB := hid H1
   clear H1
   go_wp2_with (fail)
   refine (try_s (HB.out.lit _) st.1.length ⟨#[69, 114, 114]⟩ ⟨#[116, 104, 114, 111, 119, 110]⟩ (by omega) (by simp [bAdd, bTry]; omega) (by simp [bAdd, bTry]; omega)).mono ?_
   rintro e w' ⟨rfl, H1⟩
   replace HB := hid H1
   clear H1
   go_wp2_with fail
   exact bodyPost_end (results_none rfl _ _ _) rfl ⟨rfl, by rw [HE.out]; exact HB.out⟩
  ·have hi1 : (n : Int) % 2 = 1 := by omega
   have hs0 : selT (n : Int) 2 [⟨#[69, 114, 114]⟩, ⟨#[70, 97, 117, 108, 116]⟩] = ⟨#[70, 97, 117, 108, 116]⟩ := by unfold selT; rw [hi1]; rfl
   have hs1 : selT (n : Int) 3 [⟨#[69, 114, 114]⟩, ⟨#[69, 114, 114, 50]⟩, ⟨#[66, 111, 117, 110, 100, 115, 70, 97, 117, 108, 116]⟩] = ⟨#[69, 114, 114, 50]⟩ := by unfold selT; rw [hi0]; rfl
   have HE : Hid (snip 38 (n : Int) st = bTry st.1.length ⟨#[70, 97, 117, 108, 116]⟩ ⟨#[116, 104, 114, 111, 119, 110]⟩ (bAdd [iOf 25 ⟨#[69, 114, 114, 50]⟩, iOne 38] st)) := hid (by simp only [snip, hs0, hs1])
   clear hs0 hs1
   go_enter Tryz.func65, Tryz.ntmps65
   try simp only [List.append_eq, List.cons_append, List.nil_append]
   go_wp2_with fail
   refine (at_x _ _ _).mono ?_
   rintro e w1 ⟨rfl, hb⟩
   replace HB := hid (HB.out.next hb)
   clear hb c0 q0
   replace HB := hid (HB.out.lit (.cells #[.int .i64 4, .int .i32 0, .int .i64 3, .string ⟨#[]⟩, .string ⟨#[]⟩, .string ⟨#[]⟩, .string ⟨#[]⟩] 61))
   go_wp2_with ((first | (go_at_call 31; refine (one_x _ _).mono ?_) | (go_at_call 30; refine (of_x _ _ _).mono ?_)); rintro e w' ⟨rfl, hb⟩; (first | replace HB := hid (HB.out.next hb) | replace HB := hid ((HB.out.lit _).next hb)); clear hb)
   refine (add_s HB.out [iOf 25 ⟨#[69, 114, 114, 50]⟩, iOne 38] _ rfl _ rfl (by simp [bAdd, bTry]; omega)).mono ?_
   rintro e w' ⟨rfl, H1⟩
   replace HB := hid H1
   clear H1
   go_wp2_with (fail)
   refine (try_s (HB.out.lit _) st.1.length ⟨#[70, 97, 117, 108, 116]⟩ ⟨#[116, 104, 114, 111, 119, 110]⟩ (by omega) (by simp [bAdd, bTry]; omega) (by simp [bAdd, bTry]; omega)).mono ?_
   rintro e w' ⟨rfl, H1⟩
   replace HB := hid H1
   clear H1
   go_wp2_with fail
   exact bodyPost_end (results_none rfl _ _ _) rfl ⟨rfl, by rw [HE.out]; exact HB.out⟩
 ·have hi0 : (n : Int) % 3 = 2 := by omega
  have hm1 : n % 2 = 0 ∨ n % 2 = 1 := by omega
  rcases hm1 with h1 | h1
  ·have hi1 : (n : Int) % 2 = 0 := by omega
   have hs0 : selT (n : Int) 2 [⟨#[69, 114, 114]⟩, ⟨#[70, 97, 117, 108, 116]⟩] = ⟨#[69, 114, 114]⟩ := by unfold selT; rw [hi1]; rfl
   have hs1 : selT (n : Int) 3 [⟨#[69, 114, 114]⟩, ⟨#[69, 114, 114, 50]⟩, ⟨#[66, 111, 117, 110, 100, 115, 70, 97, 117, 108, 116]⟩] = ⟨#[66, 111, 117, 110, 100, 115, 70, 97, 117, 108, 116]⟩ := by unfold selT; rw [hi0]; rfl
   have HE : Hid (snip 38 (n : Int) st = bTry st.1.length ⟨#[69, 114, 114]⟩ ⟨#[116, 104, 114, 111, 119, 110]⟩ (bAdd [iOf 25 ⟨#[66, 111, 117, 110, 100, 115, 70, 97, 117, 108, 116]⟩, iOne 38] st)) := hid (by simp only [snip, hs0, hs1])
   clear hs0 hs1
   go_enter Tryz.func65, Tryz.ntmps65
   try simp only [List.append_eq, List.cons_append, List.nil_append]
   go_wp2_with fail
   refine (at_x _ _ _).mono ?_
   rintro e w1 ⟨rfl, hb⟩
   replace HB := hid (HB.out.next hb)
   clear hb c0 q0
   replace HB := hid (HB.out.lit (.cells #[.int .i64 4, .int .i32 0, .int .i64 3, .string ⟨#[]⟩, .string ⟨#[]⟩, .string ⟨#[]⟩, .string ⟨#[]⟩] 61))
   go_wp2_with ((first | (go_at_call 31; refine (one_x _ _).mono ?_) | (go_at_call 30; refine (of_x _ _ _).mono ?_)); rintro e w' ⟨rfl, hb⟩; (first | replace HB := hid (HB.out.next hb) | replace HB := hid ((HB.out.lit _).next hb)); clear hb)
   refine (add_s HB.out [iOf 25 ⟨#[66, 111, 117, 110, 100, 115, 70, 97, 117, 108, 116]⟩, iOne 38] _ rfl _ rfl (by simp [bAdd, bTry]; omega)).mono ?_
   rintro e w' ⟨rfl, H1⟩
   replace HB := hid H1
   clear H1
   go_wp2_with (fail)
   refine (try_s (HB.out.lit _) st.1.length ⟨#[69, 114, 114]⟩ ⟨#[116, 104, 114, 111, 119, 110]⟩ (by omega) (by simp [bAdd, bTry]; omega) (by simp [bAdd, bTry]; omega)).mono ?_
   rintro e w' ⟨rfl, H1⟩
   replace HB := hid H1
   clear H1
   go_wp2_with fail
   exact bodyPost_end (results_none rfl _ _ _) rfl ⟨rfl, by rw [HE.out]; exact HB.out⟩
  ·have hi1 : (n : Int) % 2 = 1 := by omega
   have hs0 : selT (n : Int) 2 [⟨#[69, 114, 114]⟩, ⟨#[70, 97, 117, 108, 116]⟩] = ⟨#[70, 97, 117, 108, 116]⟩ := by unfold selT; rw [hi1]; rfl
   have hs1 : selT (n : Int) 3 [⟨#[69, 114, 114]⟩, ⟨#[69, 114, 114, 50]⟩, ⟨#[66, 111, 117, 110, 100, 115, 70, 97, 117, 108, 116]⟩] = ⟨#[66, 111, 117, 110, 100, 115, 70, 97, 117, 108, 116]⟩ := by unfold selT; rw [hi0]; rfl
   have HE : Hid (snip 38 (n : Int) st = bTry st.1.length ⟨#[70, 97, 117, 108, 116]⟩ ⟨#[116, 104, 114, 111, 119, 110]⟩ (bAdd [iOf 25 ⟨#[66, 111, 117, 110, 100, 115, 70, 97, 117, 108, 116]⟩, iOne 38] st)) := hid (by simp only [snip, hs0, hs1])
   clear hs0 hs1
   go_enter Tryz.func65, Tryz.ntmps65
   try simp only [List.append_eq, List.cons_append, List.nil_append]
   go_wp2_with fail
   refine (at_x _ _ _).mono ?_
   rintro e w1 ⟨rfl, hb⟩
   replace HB := hid (HB.out.next hb)
   clear hb c0 q0
   replace HB := hid (HB.out.lit (.cells #[.int .i64 4, .int .i32 0, .int .i64 3, .string ⟨#[]⟩, .string ⟨#[]⟩, .string ⟨#[]⟩, .string ⟨#[]⟩] 61))
   go_wp2_with ((first | (go_at_call 31; refine (one_x _ _).mono ?_) | (go_at_call 30; refine (of_x _ _ _).mono ?_)); rintro e w' ⟨rfl, hb⟩; (first | replace HB := hid (HB.out.next hb) | replace HB := hid ((HB.out.lit _).next hb)); clear hb)
   refine (add_s HB.out [iOf 25 ⟨#[66, 111, 117, 110, 100, 115, 70, 97, 117, 108, 116]⟩, iOne 38] _ rfl _ rfl (by simp [bAdd, bTry]; omega)).mono ?_
   rintro e w' ⟨rfl, H1⟩
   replace HB := hid H1
   clear H1
   go_wp2_with (fail)
   refine (try_s (HB.out.lit _) st.1.length ⟨#[70, 97, 117, 108, 116]⟩ ⟨#[116, 104, 114, 111, 119, 110]⟩ (by omega) (by simp [bAdd, bTry]; omega) (by simp [bAdd, bTry]; omega)).mono ?_
   rintro e w' ⟨rfl, H1⟩
   replace HB := hid H1
   clear H1
   go_wp2_with fail
   exact bodyPost_end (results_none rfl _ _ _) rfl ⟨rfl, by rw [HE.out]; exact HB.out⟩
theorem snip_39 : SnO 39 39 := by
 intro B bb st w0 w H n hn hl hl2
 obtain ⟨p, cap, q0, c0⟩ := H.len
 have HB := hid H
 clear H
 have HE : Hid (snip 39 (n : Int) st = bAdd [iCall 36 ⟨#[85, 116, 105, 108]⟩ ⟨#[115, 104, 111, 119]⟩ ⟨#[40, 41, 86]⟩] st) := hid (rfl)
 go_enter Tryz.func65, Tryz.ntmps65
 try simp only [List.append_eq, List.cons_append, List.nil_append]
 go_wp2_with fail
 refine (at_x _ _ _).mono ?_
 rintro e w1 ⟨rfl, hb⟩
 replace HB := hid (HB.out.next hb)
 clear hb c0 q0
 replace HB := hid (HB.out.lit (.cells #[.int .i64 4, .int .i32 0, .int .i64 3, .string ⟨#[]⟩, .string ⟨#[]⟩, .string ⟨#[]⟩, .string ⟨#[]⟩] 61))
 go_wp2_with (go_at_call 67; refine (call_x _ _ _ _ _).mono ?_; rintro e w' ⟨rfl, hb⟩; (first | replace HB := hid (HB.out.next hb) | replace HB := hid ((HB.out.lit _).next hb)); clear hb)
 refine (add_s HB.out [iCall 36 ⟨#[85, 116, 105, 108]⟩ ⟨#[115, 104, 111, 119]⟩ ⟨#[40, 41, 86]⟩] _ rfl _ rfl (by simp [bAdd, bTry]; omega)).mono ?_
 rintro e w' ⟨rfl, H1⟩
 replace HB := hid H1
 clear H1
 go_wp2_with fail
 exact bodyPost_end (results_none rfl _ _ _) rfl ⟨rfl, by rw [HE.out]; exact HB.out⟩
end Go.Proofs.YtijnimjmimeefaaGreat.A
namespace Go.Proofs.YtijnimjmimeefaaGreat.A
open Go.RowKit Go.Proofs.YtijnimjmimeefaaGreat.D Go.Proofs.YtijnimjmimeefaaGreat.O
theorem part_set {cs : List Value} {sz k : Nat} {u : Value} (i : Nat) (j : Nat) (hk : k = i * sz + j) (hj : j < sz) (i' : Nat) :
  ((cs.set k u).drop (i' * sz)).take sz = if i' = i then ((cs.drop (i * sz)).take sz).set j u else (cs.drop (i' * sz)).take sz := by
 subst hk
 rw [List.drop_set]
 by_cases h : i' = i
 ·subst h
  rw [if_neg (by omega), if_pos rfl, List.take_set, show i' * sz + j - i' * sz = j by omega]
 ·rw [if_neg h]
  by_cases h2 : i * sz + j < i' * sz
  ·rw [if_pos h2]
  ·rw [if_neg h2, List.take_set]
   have h3 : i' < i := by
    apply Nat.lt_of_not_le
    intro h4
    have : (i + 1) * sz <= i' * sz := Nat.mul_le_mul_right _ (by omega)
    rw [Nat.succ_mul] at this
    omega
   have h5 : (i' + 1) * sz <= i * sz := Nat.mul_le_mul_right _ (by omega)
   rw [Nat.succ_mul] at h5
   rw [List.set_eq_of_length_le]
   rw [List.length_take]
   omega
theorem OwnX.put1 {α : Type} {sz : Nat} {T : TypeId} {c : α -> List Value} {w : World} {B : Nat} {v : Value} {xs : List α} (h : OwnX sz T (sP c) w B v xs) {i j : Nat} {x y : α} {u : Value} (hi : xs[i]? = some x) (hj : j < sz) (hc : c y = (c x).set j u) :
  ∃ g cap, v = .slice (some ⟨g, 0, none⟩) xs.length cap /\ xs.length <= cap /\ B <= g /\ g < w.heap.size /\ (∀ k, w.frozen? ⟨g, k, none⟩ = false) /\ (∀ k u', (c x)[k]? = some u' -> w.cell? ⟨g, i * sz + k, none⟩ = some u') /\ OwnX sz T (sP c) (w.setCell ⟨g, i * sz + j, none⟩ u) B v (xs.set i y) := by
 have hrd := h.rd (sP.grow c)
 obtain ⟨cs, h1, h2⟩ := h
 have hil : i < xs.length := (List.getElem?_eq_some_iff.1 hi).1
 rcases h1.2 with ⟨rfl, hn⟩ | ⟨g, cap, cur, rfl, hb, hg, hle, hm, hs, ht⟩
 ·omega
 ·refine ⟨g, cap, rfl, hle, hb, (Array.getElem?_eq_some_iff.1 hg).1, fun k => by simp [World.frozen?, hg], fun k u' hu => ?_, cs.set (i * sz + j) u, ⟨by rw [List.length_set, List.length_set]; exact h1.1, .inr ⟨g, cap, cur.setIfInBounds (i * sz + j) u, by rw [List.length_set], hb, ?_, by rw [List.length_set]; exact hle, hm, by simp [hs], ?_⟩⟩, fun i' x' hx' => ?_⟩
  ·obtain ⟨b', off', e', -, -, -, -, hcc⟩ := hrd.place (fun e => by rw [e] at hil; simp at hil)
   simp only [Option.some.injEq, Addr.mk.injEq, and_true] at e'
   obtain ⟨rfl, rfl⟩ := e'
   have := sP_at (hcc i x hi) k u' hu
   rw [Nat.zero_add] at this
   exact this
  ·exact heap_setCell_same w g (i * sz + j) cur T u hg
  ·rw [Array.toList_setIfInBounds, List.take_set, List.length_set, ht]
  ·rw [part_set i j rfl hj i']
   rw [List.getElem?_set] at hx'
   by_cases e : i = i'
   ·subst e
    rw [if_pos rfl, if_pos hil] at hx'
    cases hx'
    rw [if_pos rfl, h2 i x hi]
    exact hc.symm
   ·rw [if_neg e] at hx'
    rw [if_neg (fun h => e h.symm)]
    exact h2 i' x' hx'
theorem BdP.putI {w : World} {B bb : Nat} {vl vh : Value} {st : BS} (h : BdP w B bb vl vh st) {i j : Nat} {x y : Ins} {u : Value} (hi : st.1[i]? = some x) (hj : j < 7) (hc : insC y = (insC x).set j u) :
  ∃ g cap, vl = .slice (some ⟨g, 0, none⟩) st.1.length cap /\ st.1.length <= cap /\ B <= g /\ g < w.heap.size /\ (∀ k, w.frozen? ⟨g, k, none⟩ = false) /\ (∀ k u', (insC x)[k]? = some u' -> w.cell? ⟨g, i * 7 + k, none⟩ = some u') /\ BdP (w.setCell ⟨g, i * 7 + j, none⟩ u) B bb vl vh (st.1.set i y, st.2) := by
 obtain ⟨h1, h2, h3, h4, h5, h6, h7⟩ := h
 obtain ⟨g, cap, rfl, e1, e2, e3, e4, e6, e5⟩ := h3.put1 hi hj hc
 have k2 : Kpt [g] w (w.setCell ⟨g, i * 7 + j, none⟩ u) := Kpt.set _ _ _ _ _ (by simp)
 have hlt : bb < w.heap.size := (Array.getElem?_eq_some_iff.1 h1).1
 have hne : bb ≠ g := fun e => h5 (by rw [e]; rfl)
 exact ⟨g, cap, rfl, e1, e2, e3, e4, e6, ⟨by rw [k2.2 bb hlt (by simpa using hne)]; exact h1, h2, e5, h4.kptS k2 (fun g' e => by simp; rintro rfl; exact h7 _ rfl e), h5, h6, h7⟩⟩
theorem modify_set {α : Type} {l : List α} {i : Nat} {x : α} (f : α -> α) (h : l[i]? = some x) : l.modify i f = l.set i (f x) := by
 apply List.ext_getElem?
 intro k
 rw [List.getElem?_modify, List.getElem?_set]
 by_cases e : i = k
 ·subst e
  have hl := (List.getElem?_eq_some_iff.1 h).1
  simp [hl, (List.getElem?_eq_some_iff.1 h).2]
 ·simp [e]
theorem snip_14 : SnN 14 14 := by
 intro B bb st w0 w H n hn hl hl2
 obtain ⟨p, cap, q0, c0⟩ := H.len
 have HB := hid H
 clear H
 go_enter Tryz.func64, Tryz.ntmps64
 go_wp2_with ((first | (go_at_call 31; refine (one_x _ _).mono ?_) | (go_at_call 32; refine (at_x _ _ _).mono ?_) | (go_at_call 62; refine (num_x _ _ (by omega)).mono ?_) | (go_at_call 63; refine (str_x _ _).mono ?_) | (go_at_call 30; refine (of_x _ _ _).mono ?_) | (go_at_call 68; refine (part_x _ _ _ _).mono ?_) | (go_at_call 67; refine (call_x _ _ _ _ _).mono ?_) | (go_at_call 108; refine (word_v _ _ hn).mono ?_) | (go_at_call 110; refine (class_v _ _ hn).mono ?_)); rintro e w' ⟨rfl, hb⟩; (first | replace HB := hid (HB.out.next hb) | replace HB := hid ((HB.out.lit _).next hb)); clear hb)
 refine (add_s HB.out [iNum ((n : Int) % 4), iAt 5 5] _ rfl _ rfl (by simp; omega)).mono ?_
 rintro e w' ⟨rfl, H1⟩
 replace HB := hid H1
 clear H1 c0 q0
 go_wp2_with ((first | (go_at_call 31; refine (one_x _ _).mono ?_) | (go_at_call 32; refine (at_x _ _ _).mono ?_) | (go_at_call 62; refine (num_x _ _ (by omega)).mono ?_) | (go_at_call 63; refine (str_x _ _).mono ?_) | (go_at_call 30; refine (of_x _ _ _).mono ?_) | (go_at_call 68; refine (part_x _ _ _ _).mono ?_) | (go_at_call 67; refine (call_x _ _ _ _ _).mono ?_) | (go_at_call 108; refine (word_v _ _ hn).mono ?_) | (go_at_call 110; refine (class_v _ _ hn).mono ?_)); rintro e w' ⟨rfl, hb⟩; (first | replace HB := hid (HB.out.next hb) | replace HB := hid ((HB.out.lit _).next hb)); clear hb)
 refine (add_s HB.out [iAt 4 5, iAt 20 ((st.1.length : Int) + 10), iStr ⟨#[46]⟩, iOne 41, iAt 4 5, iNum 1, iOne 9, iAt 5 5] _ rfl _ rfl (by simp [bAdd]; omega)).mono ?_
 rintro e w' ⟨rfl, ⟨vl, vh, h⟩, H2, H3⟩
 have hget : (bAdd [iAt 4 5, iAt 20 ((st.1.length : Int) + 10), iStr ⟨#[46]⟩, iOne 41, iAt 4 5, iNum 1, iOne 9, iAt 5 5] (bAdd [iNum ((n : Int) % 4), iAt 5 5] st)).1[st.1.length + 3]? = some (iAt 20 ((st.1.length : Int) + 10)) := by
  simp [bAdd, List.getElem?_append_right]
 obtain ⟨q1, c0, c1, f0, f1⟩ := h.cells
 obtain ⟨g, cap2, rfl, e1, e2, e3, e4, e6, e5⟩ := h.putI (j := 2) (y := iAt 20 ((st.1.length : Int) + 11)) (u := .int .i64 ((st.1.length : Int) + 11)) hget (by decide) rfl
 have e4' := e4 ((st.1.length + 3) * 7 + 2)
 have e6' := e6 2 _ rfl
 have hlen : (bAdd [iAt 4 5, iAt 20 ((st.1.length : Int) + 10), iStr ⟨#[46]⟩, iOne 41, iAt 4 5, iNum 1, iOne 9, iAt 5 5] (bAdd [iNum ((n : Int) % 4), iAt 5 5] st)).1.length = st.1.length + 10 := by simp [bAdd]
 rw [hlen] at c0 e1
 have H5 := hid e5
 have HG := hid hget
 have hS : Below B w' (w'.setCell ⟨g, (st.1.length + 3) * 7 + 2, none⟩ (.int .i64 ((st.1.length : Int) + 11))) := (Kpt.set [g] w' g _ _ (by simp)).below (fun x hx => by simp at hx; omega) H3
 obtain ⟨wS, hwS⟩ : ∃ x, x = w'.setCell ⟨g, (st.1.length + 3) * 7 + 2, none⟩ (.int .i64 ((st.1.length : Int) + 11)) := ⟨_, rfl⟩
 rw [<- hwS] at hS H5
 have HS := hid hS
 have H22 := hid H2
 clear h e5 e4 e6 hget hlen c1 f0 f1 HB hS H2
 go_wp2_with fail
 rw [<- hwS]
 have HB := hid (show Bs B bb _ w0 wS from ⟨⟨_, _, H5.out⟩, H22.out.trans HS.out, Nat.le_trans H3 HS.out.size⟩)
 clear c0 q1 e1 e2 e3 e4' e6' H3 hwS
 go_wp2_with ((first | (go_at_call 31; refine (one_x _ _).mono ?_) | (go_at_call 32; refine (at_x _ _ _).mono ?_) | (go_at_call 62; refine (num_x _ _ (by omega)).mono ?_) | (go_at_call 63; refine (str_x _ _).mono ?_) | (go_at_call 30; refine (of_x _ _ _).mono ?_) | (go_at_call 68; refine (part_x _ _ _ _).mono ?_) | (go_at_call 67; refine (call_x _ _ _ _ _).mono ?_) | (go_at_call 108; refine (word_v _ _ hn).mono ?_) | (go_at_call 110; refine (class_v _ _ hn).mono ?_)); rintro e w' ⟨rfl, hb⟩; (first | replace HB := hid (HB.out.next hb) | replace HB := hid ((HB.out.lit _).next hb)); clear hb)
 refine (add_s HB.out [iAt 19 ((st.1.length : Int) + 2)] _ rfl _ rfl (by simp [bAdd]; omega)).mono ?_
 rintro e w9 ⟨rfl, H1⟩
 have HE : Hid (snip 14 (n : Int) st = bAdd [iAt 19 ((st.1.length : Int) + 2)] ((bAdd [iAt 4 5, iAt 20 ((st.1.length : Int) + 10), iStr ⟨#[46]⟩, iOne 41, iAt 4 5, iNum 1, iOne 9, iAt 5 5] (bAdd [iNum ((n : Int) % 4), iAt 5 5] st)).1.set (st.1.length + 3) (iAt 20 ((st.1.length : Int) + 11)), (bAdd [iAt 4 5, iAt 20 ((st.1.length : Int) + 10), iStr ⟨#[46]⟩, iOne 41, iAt 4 5, iNum 1, iOne 9, iAt 5 5] (bAdd [iNum ((n : Int) % 4), iAt 5 5] st)).2)) := hid (by
  show bAdd _ (bSet _ _ _) = _
  unfold bSet
  rw [modify_set _ HG.out]
  rfl)
 have HF := hid H1
 clear H1 HB
 go_wp2_with fail
 go_ret
 exact ⟨rfl, by rw [HE.out]; exact HF.out⟩
theorem BdP.putAll {w : World} {B bb : Nat} {vl vh : Value} {st : BS} (h : BdP w B bb vl vh st) {i : Nat} {o n k o' n' k' : Int} {s c m d s' c' m' d' : ByteArray} (hi : st.1[i]? = some (o, n, k, s, c, m, d)) :
  ∃ g cap, vl = .slice (some ⟨g, 0, none⟩) st.1.length cap /\ st.1.length <= cap /\ B <= g /\ g < w.heap.size /\ (∀ k, w.frozen? ⟨g, k, none⟩ = false) /\ (∀ j u', (insC (o, n, k, s, c, m, d))[j]? = some u' -> w.cell? ⟨g, i * 7 + j, none⟩ = some u') /\
   BdP (((((((w.setCell ⟨g, i * 7 + 0, none⟩ (.int .i64 o')).setCell ⟨g, i * 7 + 1, none⟩ (.int .i32 n')).setCell ⟨g, i * 7 + 2, none⟩ (.int .i64 k')).setCell ⟨g, i * 7 + 3, none⟩ (.string s')).setCell ⟨g, i * 7 + 4, none⟩ (.string c')).setCell ⟨g, i * 7 + 5, none⟩ (.string m')).setCell ⟨g, i * 7 + 6, none⟩ (.string d')) B bb vl vh (st.1.set i (o', n', k', s', c', m', d'), st.2) := by
 have hl := (List.getElem?_eq_some_iff.1 hi).1
 obtain ⟨g, cap, rfl, e1, e2, e3, e4, e6, h1⟩ := h.putI (j := 0) (y := ((o', n, k, s, c, m, d) : Ins)) (u := .int .i64 o') hi (by decide) rfl
 obtain ⟨g1, cap1, t1, -, -, -, -, -, h2⟩ := h1.putI (i := i) (x := ((o', n, k, s, c, m, d) : Ins)) (j := 1) (y := ((o', n', k, s, c, m, d) : Ins)) (u := .int .i32 n') (by simp [hl]) (by decide) rfl
 simp only [Value.slice.injEq, Option.some.injEq, Addr.mk.injEq, and_true] at t1
 obtain ⟨rfl, -⟩ := t1
 obtain ⟨g2, cap2, t2, -, -, -, -, -, h3⟩ := h2.putI (i := i) (x := ((o', n', k, s, c, m, d) : Ins)) (j := 2) (y := ((o', n', k', s, c, m, d) : Ins)) (u := .int .i64 k') (by simp [hl]) (by decide) rfl
 simp only [Value.slice.injEq, Option.some.injEq, Addr.mk.injEq, and_true] at t2
 obtain ⟨rfl, -⟩ := t2
 obtain ⟨g3, cap3, t3, -, -, -, -, -, h4⟩ := h3.putI (i := i) (x := ((o', n', k', s, c, m, d) : Ins)) (j := 3) (y := ((o', n', k', s', c, m, d) : Ins)) (u := .string s') (by simp [hl]) (by decide) rfl
 simp only [Value.slice.injEq, Option.some.injEq, Addr.mk.injEq, and_true] at t3
 obtain ⟨rfl, -⟩ := t3
 obtain ⟨g4, cap4, t4, -, -, -, -, -, h5⟩ := h4.putI (i := i) (x := ((o', n', k', s', c, m, d) : Ins)) (j := 4) (y := ((o', n', k', s', c', m, d) : Ins)) (u := .string c') (by simp [hl]) (by decide) rfl
 simp only [Value.slice.injEq, Option.some.injEq, Addr.mk.injEq, and_true] at t4
 obtain ⟨rfl, -⟩ := t4
 obtain ⟨g5, cap5, t5, -, -, -, -, -, h6⟩ := h5.putI (i := i) (x := ((o', n', k', s', c', m, d) : Ins)) (j := 5) (y := ((o', n', k', s', c', m', d) : Ins)) (u := .string m') (by simp [hl]) (by decide) rfl
 simp only [Value.slice.injEq, Option.some.injEq, Addr.mk.injEq, and_true] at t5
 obtain ⟨rfl, -⟩ := t5
 obtain ⟨g6, cap6, t6, -, -, -, -, -, h7⟩ := h6.putI (i := i) (x := ((o', n', k', s', c', m', d) : Ins)) (j := 6) (y := ((o', n', k', s', c', m', d') : Ins)) (u := .string d') (by simp [hl]) (by decide) rfl
 simp only [Value.slice.injEq, Option.some.injEq, Addr.mk.injEq, and_true] at t6
 obtain ⟨rfl, -⟩ := t6
 simp only [List.set_set] at h7
 exact ⟨g, cap, rfl, e1, e2, e3, e4, e6, h7⟩
theorem snip_37 : SnO 37 37 := by
 intro B bb st w0 w H n hn hl hl2
 obtain ⟨p, cap, q0, c0⟩ := H.len
 have HB := hid H
 clear H
 have hget : (bAdd [iAt 4 3, iCall 36 ⟨#[85, 116, 105, 108]⟩ ⟨#[112, 97, 115, 115]⟩ ⟨#[40, 76, 73, 59, 41, 76, 73, 59]⟩, iAt 5 4] st).1[st.1.length]? = some (iAt 4 3) := by simp [bAdd]
 have hlen : (bAdd [iAt 4 3, iCall 36 ⟨#[85, 116, 105, 108]⟩ ⟨#[112, 97, 115, 115]⟩ ⟨#[40, 76, 73, 59, 41, 76, 73, 59]⟩, iAt 5 4] st).1.length = st.1.length + 3 := by simp [bAdd]
 have HE : Hid (snip 37 (n : Int) st = ((bAdd [iAt 4 3, iCall 36 ⟨#[85, 116, 105, 108]⟩ ⟨#[112, 97, 115, 115]⟩ ⟨#[40, 76, 73, 59, 41, 76, 73, 59]⟩, iAt 5 4] st).1.set st.1.length (iAt 4 4), (bAdd [iAt 4 3, iCall 36 ⟨#[85, 116, 105, 108]⟩ ⟨#[112, 97, 115, 115]⟩ ⟨#[40, 76, 73, 59, 41, 76, 73, 59]⟩, iAt 5 4] st).2)) := hid (by
  show bSet _ _ _ = _
  unfold bSet
  rw [modify_set _ hget])
 obtain ⟨SN, hSN⟩ : ∃ x, x = bAdd [iAt 4 3, iCall 36 ⟨#[85, 116, 105, 108]⟩ ⟨#[112, 97, 115, 115]⟩ ⟨#[40, 76, 73, 59, 41, 76, 73, 59]⟩, iAt 5 4] st := ⟨_, rfl⟩
 rw [<- hSN] at hget hlen HE
 have HG := hid hget
 have HSN := hid hSN
 have HLN := hid hlen
 clear hget hSN hlen
 go_enter Tryz.func65, Tryz.ntmps65
 try simp only [List.append_eq, List.cons_append, List.nil_append]
 go_wp2_with fail
 refine (at_x _ _ _).mono ?_
 rintro e w1 ⟨rfl, hb⟩
 replace HB := hid (HB.out.next hb)
 clear hb c0 q0
 have HT := hid (TC.made w1)
 replace HB := hid (HB.out.bt.lit (.cells #[.int .i64 4, .int .i32 0, .int .i64 3, .string ⟨#[]⟩, .string ⟨#[]⟩, .string ⟨#[]⟩, .string ⟨#[]⟩] 61))
 go_wp2_with fail
 obtain ⟨w2, hw2⟩ : ∃ x, x = w1.alloc (.cells #[.int .i64 4, .int .i32 0, .int .i64 3, .string ⟨#[]⟩, .string ⟨#[]⟩, .string ⟨#[]⟩, .string ⟨#[]⟩] 61) := ⟨_, rfl⟩
 obtain ⟨tb, htb⟩ : ∃ x, x = w1.heap.size := ⟨_, rfl⟩
 rw [<- hw2, <- htb] at HB HT
 try rw [<- hw2]
 try rw [<- htb]
 clear hw2 htb
 replace HB := hid (HB.out.next (below_dr w2))
 replace HT := hid (HT.out.next (below_dr w2))
 refine wp_region_held_drew (S := fun w' => w'.cell? ⟨tb, 0, none⟩ = some (.int .i64 4) /\ w'.cell? ⟨tb, 1, none⟩ = some (.int .i32 0) /\ w'.cell? ⟨tb, 2, none⟩ = some (.int .i64 3) /\ w'.cell? ⟨tb, 3, none⟩ = some (.string ⟨#[]⟩) /\ w'.cell? ⟨tb, 4, none⟩ = some (.string ⟨#[]⟩) /\ w'.cell? ⟨tb, 5, none⟩ = some (.string ⟨#[]⟩) /\ w'.cell? ⟨tb, 6, none⟩ = some (.string ⟨#[]⟩)) (by kernel_rfl) (z7c HT.out.2) (fun hh => ?_)
 refine tkA 0 _ hh ?_
 try go_frame
 refine tkB 1 _ hh ?_
 try go_frame
 refine rdH [2] ?_
 refine rcH (fun K hK => ?_) AllReadyH.nil
 clear hh
 go_simp
 refine (call_x _ _ _ _ _).mono ?_
 rintro e x2 ⟨rfl, hb⟩
 replace HB := hid (HB.out.next hb)
 replace HT := hid (HT.out.next hb)
 clear hb
 refine hK.out _ _ (z7c HT.out.2) (fun hh => ?_)
 clear hK K
 try go_frame
 refine rdH [3] ?_
 refine rcH (fun K hK => ?_) AllReadyH.nil
 clear hh
 go_simp
 refine (at_x _ _ _).mono ?_
 rintro e x3 ⟨rfl, hb⟩
 replace HB := hid (HB.out.next hb)
 replace HT := hid (HT.out.next hb)
 clear hb
 refine hK.out _ _ (z7c HT.out.2) (fun hh => ?_)
 clear hK K
 try go_frame
 refine rdH [4] ?_
 refine rcH (fun K hK => ?_) AllReadyH.nil
 clear hh
 go_simp
 refine hK.out _ _ (z7c (HT.out.next (below_al _ _)).2) (fun hh => ?_)
 clear hK K
 try go_frame
 refine rdH [5] ?_
 refine rcH (fun K hK => ?_) AllReadyH.nil
 clear hh
 go_simp
 refine (add_t HB.out [iAt 4 3, iCall 36 ⟨#[85, 116, 105, 108]⟩ ⟨#[112, 97, 115, 115]⟩ ⟨#[40, 76, 73, 59, 41, 76, 73, 59]⟩, iAt 5 4] _ rfl _ rfl (by simp; omega)).mono ?_
 rintro e w' ⟨rfl, H1, H2, H3⟩
 replace HT := hid ((HT.out.next (below_al _ _)).same H2 (H3 _ (by simp)))
 rw [<- HSN.out] at H1
 replace HB := hid H1
 clear H1 H2 H3
 refine hK.out _ _ (z7c HT.out.2) (fun hh => ?_)
 clear hK K
 try go_frame
 refine wpAnyH_done (by kernel_rfl) ?_ _
 replace HB := hid (HB.out.bs.next (below_dr w'))
 clear HT
 obtain ⟨⟨vl, vh, h⟩, H2, H3⟩ := HB.out
 obtain ⟨g, cap2, hvl, e1, e2, e3, e4, e6, -⟩ := h.putAll (o' := 4) (n' := 0) (k' := 4) (s' := ⟨#[]⟩) (c' := ⟨#[]⟩) (m' := ⟨#[]⟩) (d' := ⟨#[]⟩) HG.out
 subst hvl
 obtain ⟨q1, c0, -, -, -⟩ := h.cells
 rw [HLN.out] at c0 e1
 have HH := hid h
 have H22 := hid H2
 clear h e4 e6 H2 HB
 have hbd : (st.1.length : Int) < (st.1.length : Int) + 3 := by omega
 go_wp2_with fail
 refine wp_region_held_drew (S := fun W => W.cell? ⟨bb, 0, none⟩ = some (.slice (some ⟨g, 0, none⟩) (st.1.length + 3) cap2)) (by kernel_rfl) c0 (fun hh => ?_)
 refine tkA 0 _ hh ?_
 try go_frame
 refine tkA 1 _ hh ?_
 try go_frame
 refine tkA 2 _ hh ?_
 try go_frame
 refine tkB 3 _ hh ?_
 try go_frame
 refine tkA 4 _ hh ?_
 try go_frame
 refine rdH [5] ?_
 refine rcH (fun K hK => ?_) AllReadyH.nil
 clear hh
 go_simp
 refine (at_x _ _ _).mono ?_
 rintro e w5 ⟨rfl, hb⟩
 replace HH := hid (HH.out.below hb)
 replace H22 := hid (H22.out.trans (hb.mono H3))
 have H35 : B <= w5.heap.size := Nat.le_trans H3 hb.size
 obtain ⟨g2, cap3, t2, e11, e22, e33, e44, e66, h7⟩ := HH.out.putAll (o' := 4) (n' := 0) (k' := 4) (s' := ⟨#[]⟩) (c' := ⟨#[]⟩) (m' := ⟨#[]⟩) (d' := ⟨#[]⟩) HG.out
 simp only [Value.slice.injEq, Option.some.injEq, Addr.mk.injEq, and_true] at t2
 obtain ⟨rfl, -⟩ := t2
 obtain ⟨q5, c5, -, -, -⟩ := HH.out.cells
 rw [HLN.out] at c5
 have f0' := e44 (st.1.length * 7 + 0)
 have f1' := e44 (st.1.length * 7 + 1)
 have f2' := e44 (st.1.length * 7 + 2)
 have f3' := e44 (st.1.length * 7 + 3)
 have f4' := e44 (st.1.length * 7 + 4)
 have f5' := e44 (st.1.length * 7 + 5)
 have f6' := e44 (st.1.length * 7 + 6)
 have g0' := e66 0 _ rfl
 have g1' := e66 1 _ rfl
 have g2' := e66 2 _ rfl
 have g3' := e66 3 _ rfl
 have g4' := e66 4 _ rfl
 have g5' := e66 5 _ rfl
 have g6' := e66 6 _ rfl
 rw [Nat.add_zero] at f0' g0' h7
 have HS7 := hid h7
 have c6 := h7.cells.2.1
 rw [HLN.out] at c6
 clear h7 e44 e66 hb
 refine hK.out _ _ c5 (fun hh => ?_)
 clear hK K
 try go_frame
 refine tkA 6 _ hh ?_
 try go_frame
 refine rdH [7] ?_
 refine rcH (fun K hK => ?_) AllReadyH.nil
 clear hh
 go_simp
 refine hK.out _ _ c6 (fun hh => ?_)
 clear hK K
 try go_frame
 refine wpAnyH_done (by kernel_rfl) ?_ _
 go_wp2_with fail
 refine bodyPost_end (results_none rfl _ _ _) rfl ⟨rfl, ?_⟩
 rw [HE.out]
 have hm : g ∈ [g] := by simp
 refine ⟨⟨_, _, HS7.out⟩, H22.out.trans (Kpt.below (S := [g]) (Kpt.snoc (Kpt.snoc (Kpt.snoc (Kpt.snoc (Kpt.snoc (Kpt.snoc (Kpt.snoc (Kpt.refl [g] w5) hm) hm) hm) hm) hm) hm) hm) (fun x hx => by simp at hx; omega) H35), by simpa using H35⟩
theorem numbers_s {B bb : Nat} {st : BS} {w0 w : World} (H : Bs B bb st w0 w) (k n : Nat) (hk0 : 0 <= k) (hk : k < 16) (hn : n < 256) (hl : st.1.length <= 50000) (hl2 : st.2.length <= 50000) :
  Calls Tryz.prog 64 #[.pointer (some ⟨bb, 0, none⟩), .int .u8 (k : Int), .int .u8 (n : Int)] w fun e w' => e = .returned (.bool true) /\ Bs B bb (snip k (n : Int) st) w0 w' := by
 have hc : k = 0 ∨ k = 1 ∨ k = 2 ∨ k = 3 ∨ k = 4 ∨ k = 5 ∨ k = 6 ∨ k = 7 ∨ k = 8 ∨ k = 9 ∨ k = 10 ∨ k = 11 ∨ k = 12 ∨ k = 13 ∨ k = 14 ∨ k = 15 := by omega
 rcases hc with rfl | rfl | rfl | rfl | rfl | rfl | rfl | rfl | rfl | rfl | rfl | rfl | rfl | rfl | rfl | rfl
 ·exact snip_0 H n hn hl hl2
 ·exact snip_1 H n hn hl hl2
 ·exact snip_2 H n hn hl hl2
 ·exact snip_3 H n hn hl hl2
 ·exact snip_4 H n hn hl hl2
 ·exact snip_5 H n hn hl hl2
 ·exact snip_6 H n hn hl hl2
 ·exact snip_7 H n hn hl hl2
 ·exact snip_8 H n hn hl hl2
 ·exact snip_9 H n hn hl hl2
 ·exact snip_10 H n hn hl hl2
 ·exact snip_11 H n hn hl hl2
 ·exact snip_12 H n hn hl hl2
 ·exact snip_13 H n hn hl hl2
 ·exact snip_14 H n hn hl hl2
 ·exact snip_15 H n hn hl hl2
theorem objects_s {B bb : Nat} {st : BS} {w0 w : World} (H : Bs B bb st w0 w) (k n : Nat) (hk0 : 16 <= k) (hk : k < 40) (hn : n < 256) (hl : st.1.length <= 50000) (hl2 : st.2.length <= 50000) :
  Calls Tryz.prog 65 #[.pointer (some ⟨bb, 0, none⟩), .int .u8 (k : Int), .int .u8 (n : Int)] w fun e w' => e = .returned (.tuple #[]) /\ Bs B bb (snip k (n : Int) st) w0 w' := by
 have hc : k = 16 ∨ k = 17 ∨ k = 18 ∨ k = 19 ∨ k = 20 ∨ k = 21 ∨ k = 22 ∨ k = 23 ∨ k = 24 ∨ k = 25 ∨ k = 26 ∨ k = 27 ∨ k = 28 ∨ k = 29 ∨ k = 30 ∨ k = 31 ∨ k = 32 ∨ k = 33 ∨ k = 34 ∨ k = 35 ∨ k = 36 ∨ k = 37 ∨ k = 38 ∨ k = 39 := by omega
 rcases hc with rfl | rfl | rfl | rfl | rfl | rfl | rfl | rfl | rfl | rfl | rfl | rfl | rfl | rfl | rfl | rfl | rfl | rfl | rfl | rfl | rfl | rfl | rfl | rfl
 ·exact snip_16 H n hn hl hl2
 ·exact snip_17 H n hn hl hl2
 ·exact snip_18 H n hn hl hl2
 ·exact snip_19 H n hn hl hl2
 ·exact snip_20 H n hn hl hl2
 ·exact snip_21 H n hn hl hl2
 ·exact snip_22 H n hn hl hl2
 ·exact snip_23 H n hn hl hl2
 ·exact snip_24 H n hn hl hl2
 ·exact snip_25 H n hn hl hl2
 ·exact snip_26 H n hn hl hl2
 ·exact snip_27 H n hn hl hl2
 ·exact snip_28 H n hn hl hl2
 ·exact snip_29 H n hn hl hl2
 ·exact snip_30 H n hn hl hl2
 ·exact snip_31 H n hn hl hl2
 ·exact snip_32 H n hn hl hl2
 ·exact snip_33 H n hn hl hl2
 ·exact snip_34 H n hn hl hl2
 ·exact snip_35 H n hn hl hl2
 ·exact snip_36 H n hn hl hl2
 ·exact snip_37 H n hn hl hl2
 ·exact snip_38 H n hn hl hl2
 ·exact snip_39 H n hn hl hl2
theorem numbers_no {B bb : Nat} {st : BS} {w0 w : World} (H : Bs B bb st w0 w) (k n : Nat) (hk0 : 16 <= k) (hk : k < 40) :
  Calls Tryz.prog 64 #[.pointer (some ⟨bb, 0, none⟩), .int .u8 (k : Int), .int .u8 (n : Int)] w fun e w' => e = .returned (.bool false) /\ Bs B bb st w0 w' := by
 obtain ⟨p, cap, q0, c0⟩ := H.len
 have HB := hid H
 clear H
 go_enter Tryz.func64, Tryz.ntmps64
 go_wp2_with fail
 go_ret
 exact ⟨rfl, HB.out⟩
end Go.Proofs.YtijnimjmimeefaaGreat.A
