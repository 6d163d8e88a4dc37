/- Texts that the proof is made of, joined. No condition. -/
import Derived.Test.YtijnimjmimeefaaGreatSK4
import Derived.Test.YtijnimjmimeefaaGreatSK16
set_option linter.unusedVariables false
set_option linter.unusedSimpArgs false
namespace Go.Proofs.YtijnimjmimeefaaGreat.A
open Go.RowKit Go.Proofs.YtijnimjmimeefaaGreat.D Go.Proofs.YtijnimjmimeefaaGreat.O
def pairsS (s : ByteArray) : Nat → List Ins
 | 0 => []
 | k + 1 => pairsS s k ++ [(2, 0, 0, s, ⟨#[]⟩, ⟨#[]⟩, ⟨#[]⟩), (41, 0, 0, ⟨#[]⟩, ⟨#[]⟩, ⟨#[]⟩, ⟨#[]⟩)]
def poolM (s : ByteArray) (k : Nat) : Mth := ⟨⟨#[109]⟩, [], (5, ⟨#[]⟩), true, false, 0, pairsS s k, []⟩
def poolA (s : ByteArray) (k : Nat) : Arch := [⟨⟨#[67]⟩, ⟨#[79, 98, 106, 101, 99, 116]⟩, [], 1, [], [poolM s k]⟩]
theorem pairs_len (s : ByteArray) : ∀ k, (pairsS s k).length = 2 * k
 | 0 => rfl
 | k + 1 => by
  unfold pairsS
  rw [List.length_append, pairs_len s k, List.length_cons, List.length_cons, List.length_nil]
  omega
theorem pairs_mem (s : ByteArray) : ∀ k x, x ∈ pairsS s k → x = (2, 0, 0, s, ⟨#[]⟩, ⟨#[]⟩, ⟨#[]⟩) ∨ x = (41, 0, 0, ⟨#[]⟩, ⟨#[]⟩, ⟨#[]⟩, ⟨#[]⟩)
 | 0, x, h => by cases h
 | k + 1, x, h => by
  unfold pairsS at h
  rcases List.mem_append.1 h with h | h
  ·exact pairs_mem s k x h
  ·simpa using h
theorem push_right {s : ByteArray} (hs : s.size ≤ 1000) : rightI (2, 0, 0, s, ⟨#[]⟩, ⟨#[]⟩, ⟨#[]⟩) = true := by
 unfold rightI
 simp only [Bool.and_eq_true, decide_eq_true_eq]
 refine ⟨⟨by decide, rfl⟩, ?_⟩
 unfold withinB
 simp [usesI, hs]
theorem pool_formed {s : ByteArray} {k : Nat} (hs : s.size ≤ 1000) (hk : k ≤ 1000) : formedB (poolA s k) = true := by
 unfold formedB poolA
 refine allB_iff.2 ⟨by simp, fun c hc => ?_⟩
 rw [List.mem_singleton] at hc
 subst hc
 unfold clsB
 simp only [Bool.and_eq_true]
 refine ⟨⟨⟨⟨⟨by decide, by decide⟩, by decide⟩, rfl⟩, by decide⟩, allB_iff.2 ⟨by simp, fun m hm => ?_⟩⟩
 rw [List.mem_singleton] at hm
 subst hm
 unfold mthB poolM
 simp only [Bool.and_eq_true]
 refine ⟨⟨⟨⟨⟨by decide, by decide⟩, by decide⟩, by decide⟩, allB_iff.2 ⟨by rw [pairs_len]; omega, fun x hx => ?_⟩⟩, by decide⟩
 rcases pairs_mem s k x hx with rfl | rfl
 ·exact push_right hs
 ·decide +kernel
theorem pool_wf (s : ByteArray) (k : Nat) : wfA (poolA s k) := by
 intro c hc m hm x hx
 unfold poolA at hc
 rw [List.mem_singleton] at hc
 subst hc
 rw [List.mem_singleton] at hm
 subst hm
 rcases pairs_mem s k x hx with rfl | rfl <;> exact ⟨(by decide : (-2147483648 : Int) ≤ 0), (by decide : (0 : Int) ≤ 2147483647)⟩
theorem pool_cost (s : ByteArray) (k : Nat) : costA (poolA s k) = 12 + 8 * k := by
 unfold costA poolA
 simp only [List.map_cons, List.map_nil, List.sum_cons, List.sum_nil, costC, costM, poolM, List.length_nil, pairs_len]
 omega
theorem pool_right {s : ByteArray} {k : Nat} (hs : s.size ≤ 1000) (hk : k ≤ 1000) : rightA (poolA s k) = true := by
 have h1 := (written_ext (pool_formed hs hk) (pool_wf s k)).1
 rw [pool_cost] at h1
 unfold rightA
 rw [pool_formed hs hk, decide_eq_true (by omega)]
 rfl
theorem two_len2 (n : Int) : (two n).length = 2 := rfl
theorem wPairs (s : ByteArray) : ∀ (k : Nat) (st : WS), 0 < k → ∃ bs, wAll wIns (pairsS s k) st = (putL st.1 s, st.2 ++ bs) ∧ bs.length = 4 * k := by
 have hone : ∀ st : WS, ∃ bs, wIns (41, 0, 0, ⟨#[]⟩, ⟨#[]⟩, ⟨#[]⟩, ⟨#[]⟩) (wIns (2, 0, 0, s, ⟨#[]⟩, ⟨#[]⟩, ⟨#[]⟩) st) = (putL st.1 s, st.2 ++ bs) ∧ bs.length = 4 := by
  intro st
  refine ⟨nums [2] ++ two (pos st.1 s : Int) ++ nums [41], ?_, ?_⟩
  ·show wUse _ (wNums [41] (wUse _ (wNums [2] st))) = _
   unfold wUse
   simp only [show usesI 41 = 0 from rfl, show usesI 2 = 2 from rfl]
   simp [wNums, wText, List.append_assoc]
  ·rw [List.length_append, List.length_append, two_len2, nums_one, nums_one, show cnt 2 = 2 from rfl, show cnt 41 = 41 from rfl, nb_small (by decide), nb_small (by decide)]
   rfl
 have happ : ∀ (l m : List Ins) (st : WS), wAll wIns (l ++ m) st = wAll wIns m (wAll wIns l st) := by
  intro l
  induction l with
  | nil => intro m st; rfl
  | cons x l ih => intro m st; exact ih m _
 intro k
 induction k with
 | zero => intro st h; omega
 | succ k ih =>
  intro st _
  unfold pairsS
  rw [happ]
  by_cases h0 : k = 0
  ·subst h0
   obtain ⟨bs, h1, h2⟩ := hone st
   exact ⟨bs, h1, by omega⟩
  ·obtain ⟨bs, h1, h2⟩ := ih st (by omega)
   rw [h1]
   obtain ⟨cs, h3, h4⟩ := hone (putL st.1 s, st.2 ++ bs)
   refine ⟨bs ++ cs, ?_, by rw [List.length_append]; omega⟩
   refine Eq.trans (show _ = wIns (41, 0, 0, ⟨#[]⟩, ⟨#[]⟩, ⟨#[]⟩, ⟨#[]⟩) (wIns (2, 0, 0, s, ⟨#[]⟩, ⟨#[]⟩, ⟨#[]⟩) (putL st.1 s, st.2 ++ bs)) from rfl) ?_
   rw [h3]
   simp only [Prod.mk.injEq]
   exact ⟨putL_has (putL_mem _ _), by rw [List.append_assoc]⟩
def poolSt : WS := wNums [bitN true 1 + bitN false 2, 0] (wText (ofT [] (5, ⟨#[]⟩)) (wText ⟨#[109]⟩ (wNums [((1 : Nat) : Int)] (wNums [((0 : Nat) : Int)] (wNums [1] (wNums [((0 : Nat) : Int)] (wText ⟨#[79, 98, 106, 101, 99, 116]⟩ (wText ⟨#[67]⟩ (wNums [((1 : Nat) : Int)] ([], []))))))))))
theorem poolSt_len : poolSt.1.length = 4 := by decide +kernel
theorem pool_written (s : ByteArray) (k : Nat) : written (poolA s k) = wNums [((0 : Nat) : Int)] (wAll wIns (pairsS s k) (wNums [((2 * k : Nat) : Int)] poolSt)) := by
 have : written (poolA s k) = wNums [((0 : Nat) : Int)] (wAll wIns (pairsS s k) (wNums [((pairsS s k).length : Int)] poolSt)) := rfl
 rw [this, pairs_len]
theorem pool_bytes0 (s : ByteArray) : (written (poolA s 0)).1 = poolSt.1 ∧ (written (poolA s 0)).2.length = poolSt.2.length + 2 := by
 rw [pool_written]
 refine ⟨rfl, ?_⟩
 show (poolSt.2 ++ nums [((2 * 0 : Nat) : Int)] ++ nums [((0 : Nat) : Int)]).length = _
 simp only [List.length_append, nums_one, cnt_nat]
 rw [nb_small (show 2 * 0 < 128 by decide)]
 rfl
theorem pool_bytes (s : ByteArray) (k : Nat) (hk : 0 < k) : (written (poolA s k)).1 = putL poolSt.1 s ∧ (written (poolA s k)).2.length = poolSt.2.length + (nb (2 * k)).length + 4 * k + 1 := by
 rw [pool_written]
 obtain ⟨bs, h1, h2⟩ := wPairs s k (wNums [((2 * k : Nat) : Int)] poolSt) hk
 rw [h1]
 refine ⟨rfl, ?_⟩
 show (poolSt.2 ++ nums [((2 * k : Nat) : Int)] ++ bs ++ nums [((0 : Nat) : Int)]).length = _
 rw [List.length_append, List.length_append, List.length_append, nums_one, nums_one, cnt_nat, cnt_nat, h2, nb_small (show 0 < 128 by decide)]
 simp only [List.length_cons, List.length_nil]
theorem pool_put {s : ByteArray} {k : Nat} (hs : s.size ≤ 1000) (hk : k ≤ 1000) : (putA (poolA s k)).length = 4 + (poolB (written (poolA s k)).1).length + (written (poolA s k)).2.length := by
 unfold putA
 rw [if_pos (pool_right hs hk), List.length_append, List.length_append]
 rfl
theorem nb_len1 {v : Nat} (h : v < 128) : (nb v).length = 1 := by rw [nb_small h]; rfl
theorem nb_len2 {v : Nat} (h : 128 ≤ v) (h' : v < 16384) : (nb v).length = 2 := by rw [nb_big (by omega), List.length_cons, nb_len1 (by omega)]
theorem pool_more {s : ByteArray} (hs : s.size ≤ 1000) : (putA (poolA s 0)).length < (putA (poolA s 1)).length := by
 rw [pool_put hs (by decide), pool_put hs (by decide), (pool_bytes0 s).1, (pool_bytes0 s).2, (pool_bytes s 1 (by decide)).1, (pool_bytes s 1 (by decide)).2, nb_len1 (by decide)]
 have : (poolB poolSt.1).length ≤ (poolB (putL poolSt.1 s)).length := by
  unfold poolB
  have hl := putL_len poolSt.1 s
  have h4 := poolSt_len
  rw [List.length_append, List.length_append, nb_len1 (by omega), nb_len1 (by omega)]
  have : (tbs poolSt.1).length ≤ (tbs (putL poolSt.1 s)).length := by
   rw [putL_eq]
   unfold tbs
   rw [List.flatMap_append, List.length_append]
   omega
  omega
 omega
theorem pool_step {s : ByteArray} {k : Nat} (hs : s.size ≤ 1000) (hk : k ≤ 1000) (h2 : 2 ≤ k) : (putA (poolA s k)).length = (putA (poolA s (k - 1))).length + 4 + (nb (2 * k)).length - (nb (2 * (k - 1))).length ∧ (nb (2 * (k - 1))).length ≤ (nb (2 * k)).length := by
  have h3 : (nb (2 * (k - 1))).length ≤ (nb (2 * k)).length := by
    by_cases h : 2 * k < 128
    · rw [nb_len1 h, nb_len1 (by omega)]; omega
    · rw [nb_len2 (by omega) (by omega : 2 * k < 16384)]
      exact nb_len 1 _ (by have : (128 : Nat) ^ (1 + 1) = 16384 := by decide
                           omega)
  refine ⟨?_, h3⟩
  rw [pool_put hs hk, pool_put hs (by omega), (pool_bytes s k (by omega)).1, (pool_bytes s k (by omega)).2, (pool_bytes s (k - 1) (by omega)).1, (pool_bytes s (k - 1) (by omega)).2]
  omega
theorem pool_law {s : ByteArray} {k : Nat} (hs : s.size ≤ 1000) (hk : k ≤ 100) (h2 : 2 ≤ k) : ((putA (poolA s k)).length : Int) - ((putA (poolA s (k - 1))).length : Int) = 4 ∨ (((putA (poolA s k)).length : Int) - ((putA (poolA s (k - 1))).length : Int) = 5 ∧ 128 ≤ 2 * k ∧ 2 * k - 2 < 128) := by
 obtain ⟨h1, h3⟩ := pool_step hs (by omega) h2
 by_cases ha : 2 * k < 128
 ·rw [nb_len1 ha, nb_len1 (by omega)] at h1
  omega
 ·by_cases hb : 2 * (k - 1) < 128
  ·rw [nb_len2 (by omega) (by omega : 2 * k < 16384), nb_len1 hb] at h1
   omega
  ·rw [nb_len2 (by omega) (by omega : 2 * k < 16384), nb_len2 (by omega) (by omega : 2 * (k - 1) < 16384)] at h1
   omega
theorem pool_short {s : ByteArray} {k : Nat} (hs : s.size ≤ 1000) (hk : k ≤ 100) : (putA (poolA s k)).length ≤ 1000000000 := by
 have h1 := written_ext (pool_formed hs (by omega : k ≤ 1000)) (pool_wf s k)
 rw [pool_cost] at h1
 rw [pool_put hs (by omega)]
 have hp : (poolB (written (poolA s k)).1).length ≤ 10 + 1100 * (written (poolA s k)).1.length := by
  unfold poolB
  rw [List.length_append]
  have h2 := nb_len10 (v := (written (poolA s k)).1.length) (by omega)
  have h3 : ∀ L : List ByteArray, (∀ x ∈ L, x.size ≤ 1000) → (tbs L).length ≤ 1100 * L.length := by
   intro L
   induction L with
   | nil => intro _; simp [tbs]
   | cons x L ih =>
    intro h
    have h4 := tb_len (s := x) (Nat.le_trans (h x (by simp)) (by decide))
    have h5 := ih (fun y hy => h y (by simp [hy]))
    have h6 := h x (by simp)
    unfold tbs at h5 ⊢
    rw [List.flatMap_cons, List.length_append, List.length_cons]
    omega
  have := h3 _ h1.2.2
  omega
 omega
end Go.Proofs.YtijnimjmimeefaaGreat.A
