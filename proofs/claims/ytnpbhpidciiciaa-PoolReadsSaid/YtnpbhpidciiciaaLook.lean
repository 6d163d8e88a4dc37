/- What look answers. -/
import Derived.Test.YtnpbhpidciiciaaNew
import Derived.Test.YtnpbhpidciiciaaBits
import Derived.Deep.QuietTactic
import Derived.BigQuiet
namespace Go.Proofs.Ytnpbhpidciiciaa
open Go.RowKit

/-- what the bytes l tell as a number of at most m, i bytes of it, that told v, being taken -/
def dec (m : Nat) : List UInt8 → Nat → Nat → Nat × Nat × Nat
  | [], i, _ => (0, 0, if i < 9 then 20 else 21)
  | c :: l, i, v =>
    if i = 9 then (0, 0, 21)
    else if c.toNat < 128 then wholeR (v + c.toNat * 2 ^ (7 * i)) (i + 1) c.toNat m
    else dec m l (i + 1) (v + c.toNat % 128 * 2 ^ (7 * i))

/-- what look answers -/
def lookR (bs : List UInt8) (k e m : Nat) : Nat × Nat × Nat := if e = 0 then dec m (bs.drop k) 0 0 else (0, 0, e)

theorem Rdr.cells {w : World} {B rb : Nat} {bs : List UInt8} {k e : Nat} (h : Rdr w B rb bs k e) : ∃ sl, Own w B sl bs ∧ sl.ownBlock ≠ some rb ∧ rb < w.heap.size ∧
    w.cell? ⟨rb, 0, none⟩ = some sl ∧ w.cell? ⟨rb, 1, none⟩ = some (.int .i64 k) ∧ w.cell? ⟨rb, 2, none⟩ = some (.int .i64 e) ∧
    (∀ j, w.frozen? ⟨rb, j, none⟩ = false) := by
  obtain ⟨_, _, sl, hb, ho, hn⟩ := h
  have hlt := (Array.getElem?_eq_some_iff.1 hb).1
  refine ⟨sl, ho, (fun h => Nat.lt_irrefl _ (hn _ h)), hlt, ?_, ?_, ?_, fun j => ?_⟩
  · simp [World.cell?, hb]
  · simp [World.cell?, hb]
  · simp [World.cell?, hb]
  · simp [World.frozen?, hb]

def Drawn (w w' : World) : Prop := ∃ k, w' = w.drewN k

set_option maxHeartbeats 400000 in
set_option maxRecDepth 100000 in
theorem look_err (B rb : Nat) (bs : List UInt8) (k e m : Nat) (w : World) (h : Rdr w B rb bs k e) (he : e ≠ 0) :
    Calls Try.prog 38 #[.pointer (some ⟨rb, 0, none⟩), .int .u64 m] w fun x w' => x = .returned (tri (lookR bs k e m)) ∧ Drawn w w' := by
  obtain ⟨sl, ho, hn, hlt, c0, c1, c2, hf⟩ := h.cells
  have heb : ((e : Int) == 0) = false := beq_eq_false_iff_ne.2 (by omega)
  have hen : ((e : Int) != 0) = true := by rw [bne_iff_ne]; omega
  go_enter Try.func38, Try.ntmps38
  go_wp2
  go_quiet (fail)
  go_wp2
  go_ret3
  exact ⟨tri_eq _ 0 0 e (by unfold lookR; rw [if_neg he]), ⟨_, rfl⟩⟩

set_option maxHeartbeats 400000 in
set_option maxRecDepth 100000 in
theorem look_none (rb : Nat) (bs : List UInt8) (k m cap : Nat) (p : Option Addr) (w : World) (hk : bs.length = k) (hkc : k = cap) (hcm : cap ≤ 9223372036854775807)
    (c0 : w.cell? ⟨rb, 0, none⟩ = some (.slice p k cap)) (c1 : w.cell? ⟨rb, 1, none⟩ = some (.int .i64 k)) (c2 : w.cell? ⟨rb, 2, none⟩ = some (.int .i64 0)) :
    Calls Try.prog 38 #[.pointer (some ⟨rb, 0, none⟩), .int .u64 m] w fun x w' => x = .returned (tri (lookR bs k 0 m)) ∧ Drawn w w' := by
  subst hkc
  have hd : lookR bs k 0 m = (0, 0, 20) := by unfold lookR; rw [if_pos rfl, List.drop_of_length_le (by omega)]; rfl
  have HD := Lib.hid hd
  clear hd
  clear hk
  go_enter Try.func38, Try.ntmps38
  go_wp2
  go_quiet (fail)
  go_wp2
  go_loop [8, 35] (fun v i => v = .int .u64 0 ∧ i = .int .i64 0) (fun _ _ => 0)
  case atStart => exact ⟨rfl, rfl⟩
  case round =>
    obtain ⟨rfl, rfl⟩ := hrel
    go_wp2
    go_ret3
    exact ⟨tri_eq _ 0 0 20 HD.out, ⟨_, rfl⟩⟩

/-- the i-th byte is n, and lies in memory -/
def Byte (w : World) (g : Nat) (bs : List UInt8) (i n : Nat) : Prop := ∃ c : UInt8, n = c.toNat ∧ bs[i]? = some c ∧ w.cell? ⟨g, i, none⟩ = some (.int .u8 (n : Int))
theorem Byte.cell {w : World} {g : Nat} {bs : List UInt8} {i n : Nat} (h : Byte w g bs i n) : w.cell? ⟨g, i, none⟩ = some (.int .u8 (n : Int)) := by
  obtain ⟨_, _, _, h⟩ := h
  exact h

theorem byte_of {w : World} {B g cap : Nat} {bs : List UInt8} (ho : Own w B (.slice (some ⟨g, 0, none⟩) bs.length cap) bs) : ∀ i, i < bs.length → ∃ n : Nat, n < 256 ∧ Byte w g bs i n := fun i hi => by
  refine ⟨bs[i].toNat, bs[i].toNat_lt, bs[i], rfl, List.getElem?_eq_getElem hi, ?_⟩
  have := World.ownsRow.cells ho (g := g) rfl i (u8 bs[i]) (by simp [hi])
  by_cases h0 : i = 0
  · subst h0; exact this
  · simpa [Addr.add, h0, u8] using this

/-- where the loop stands: i bytes behind k taken, that told u -/
def DecAt (m : Nat) (bs : List UInt8) (k i u : Nat) : Prop := u < 2 ^ (7 * i) ∧ dec m (bs.drop (k + i)) i u = dec m (bs.drop k) 0 0

theorem dec_end (m k v : Nat) (h : k ≤ 9) (l : List UInt8) (hl : l = [] ∨ k = 9) : dec m l k v = (0, 0, if k < 9 then 20 else 21) := by
  cases l with
  | nil => rfl
  | cons c l =>
    rcases hl with hl | hl
    · cases hl
    · subst hl
      simp [dec]

theorem DecAt.next {m : Nat} {bs : List UInt8} {k i u n g : Nat} {w : World} (h : DecAt m bs k i u) (hi : i < 9) (hb : Byte w g bs (k + i) n) :
    U64 (u + n % 128 * 2 ^ (7 * i)) ∧ (¬ n < 128 → DecAt m bs k (i + 1) (u + n % 128 * 2 ^ (7 * i))) := by
  have hp := pow_step (n := n) h.1
  refine ⟨pow_u64 (by omega) hp, fun hn => ⟨hp, ?_⟩⟩
  obtain ⟨c, hc, hx, _⟩ := hb
  obtain ⟨hlt, hx⟩ := List.getElem?_eq_some_iff.1 hx
  have := h.2
  rw [List.drop_eq_getElem_cons hlt, hx, dec, if_neg (by omega), if_neg (by omega), ← hc] at this
  rw [← this, Nat.add_assoc]

theorem DecAt.stop {m : Nat} {bs : List UInt8} {k i u n g : Nat} {w : World} (h : DecAt m bs k i u) (hi : i < 9) (hb : Byte w g bs (k + i) n) (hn : n < 128) :
    lookR bs k 0 m = wholeR (u + n % 128 * 2 ^ (7 * i)) (i + 1) n m := by
  obtain ⟨c, hc, hx, _⟩ := hb
  obtain ⟨hlt, hx⟩ := List.getElem?_eq_some_iff.1 hx
  have := h.2
  rw [List.drop_eq_getElem_cons hlt, hx, dec, if_neg (by omega), if_pos (by omega), ← hc] at this
  unfold lookR
  rw [if_pos rfl, ← this, Nat.mod_eq_of_lt hn]

theorem DecAt.over {m : Nat} {bs : List UInt8} {k i u : Nat} (h : DecAt m bs k i u) (hi : i ≤ 9) (_hk : k ≤ bs.length) (hl : bs.length - k ≤ i ∨ i = 9) (x : Nat) (hx : (if i < 9 then 20 else 21) = x) :
    lookR bs k 0 m = (0, 0, x) := by
  have h2 := h.2
  rw [dec_end m i u hi _ (by
    rcases hl with hl | hl
    · exact .inl (List.drop_of_length_le (by omega))
    · exact .inr hl), hx] at h2
  unfold lookR
  rw [if_pos rfl, ← h2]

set_option maxHeartbeats 400000 in
set_option maxRecDepth 100000 in
theorem look_some (B rb : Nat) (bs : List UInt8) (k m g cap : Nat) (w : World) (hk : k ≤ bs.length) (hm : U64 m) (hck : ¬ cap = k)
    (ho : Own w B (.slice (some ⟨g, 0, none⟩) bs.length cap) bs) (hcap : bs.length ≤ cap) (hcm : cap ≤ 9223372036854775807)
    (c0 : w.cell? ⟨rb, 0, none⟩ = some (.slice (some ⟨g, 0, none⟩) bs.length cap)) (c1 : w.cell? ⟨rb, 1, none⟩ = some (.int .i64 k)) (c2 : w.cell? ⟨rb, 2, none⟩ = some (.int .i64 0)) :
    Calls Try.prog 38 #[.pointer (some ⟨rb, 0, none⟩), .int .u64 m] w fun x w' => x = .returned (tri (lookR bs k 0 m)) ∧ Drawn w w' := by
  have HC := Lib.hid (byte_of ho)
  by_cases h9 : bs.length - k ≤ 9
  · go_enter Try.func38, Try.ntmps38
    go_wp2
    go_quiet (fail)
    go_wp2
    go_loop [8, 35] (fun x j => ∃ (i u : Nat), i ≤ (bs.length - k) ∧ x = .int .u64 u ∧ j = .int .i64 i ∧ DecAt m bs k i u) (fun _ j => (bs.length - k) - (intOf j).toNat)
    case atStart => exact ⟨0, 0, by omega, rfl, rfl, by unfold DecAt; simp⟩
    case round =>
      obtain ⟨i, u, hi, rfl, rfl, hd⟩ := hrel
      by_cases hlt2 : i < (bs.length - k)
      · obtain ⟨n, hn, hcell⟩ : ∃ n : Nat, n < 256 ∧ Byte w g bs (k + i) n := HC.out (k + i) (by omega)
        have hc1 := hcell.cell
        have hnu := (hd.next (by omega) hcell).1
        by_cases hn1 : n < 128
        · have hdn := (hd.stop (by omega) hcell hn1)
          go_wp2_with fail
          rw [step_or n i u hn (by omega) hd.1]
          refine (whole_tup _ (i + 1) n m _ hnu (by omega) hn hm).mono ?_
          rintro e w' ⟨a, b, c, HW, rfl, rfl⟩
          go_wp2
          go_ret3
          exact ⟨tri_eq _ a b c (hdn.trans HW.out), ⟨_, rfl⟩⟩
        · have hdn := (hd.next (by omega) hcell).2 hn1
          go_wp2
          rw [step_or n i u hn (by omega) hd.1]
          refine ⟨⟨i + 1, _, by omega, rfl, by go_num, hdn⟩, ?_⟩
          all_goals ((simp [intOf]) <;> omega)
      · by_cases h8 : bs.length - k < 9
        · go_wp2
          go_ret3
          exact ⟨tri_eq _ 0 0 20 (hd.over (by omega) (by omega) (.inl (by omega)) 20 (by rw [if_pos (by omega)])), ⟨_, rfl⟩⟩
        · go_wp2
          go_ret3
          exact ⟨tri_eq _ 0 0 21 (hd.over (by omega) (by omega) (.inr (by omega)) 21 (by rw [if_neg (by omega)])), ⟨_, rfl⟩⟩
  · go_enter Try.func38, Try.ntmps38
    go_wp2
    go_quiet (fail)
    go_wp2
    go_loop [8, 35] (fun x j => ∃ (i u : Nat), i ≤ 9 ∧ x = .int .u64 u ∧ j = .int .i64 i ∧ DecAt m bs k i u) (fun _ j => 9 - (intOf j).toNat)
    case atStart => exact ⟨0, 0, by omega, rfl, rfl, by unfold DecAt; simp⟩
    case round =>
      obtain ⟨i, u, hi, rfl, rfl, hd⟩ := hrel
      by_cases hlt2 : i < 9
      · obtain ⟨n, hn, hcell⟩ : ∃ n : Nat, n < 256 ∧ Byte w g bs (k + i) n := HC.out (k + i) (by omega)
        have hc1 := hcell.cell
        have hnu := (hd.next (by omega) hcell).1
        by_cases hn1 : n < 128
        · have hdn := (hd.stop (by omega) hcell hn1)
          go_wp2_with fail
          rw [step_or n i u hn (by omega) hd.1]
          refine (whole_tup _ (i + 1) n m _ hnu (by omega) hn hm).mono ?_
          rintro e w' ⟨a, b, c, HW, rfl, rfl⟩
          go_wp2
          go_ret3
          exact ⟨tri_eq _ a b c (hdn.trans HW.out), ⟨_, rfl⟩⟩
        · have hdn := (hd.next (by omega) hcell).2 hn1
          go_wp2
          rw [step_or n i u hn (by omega) hd.1]
          refine ⟨⟨i + 1, _, by omega, rfl, by go_num, hdn⟩, ?_⟩
          all_goals ((simp [intOf]) <;> omega)
      · by_cases h8 : bs.length - k < 9
        · exact absurd h8 (by omega)
        · go_wp2
          go_ret3
          exact ⟨tri_eq _ 0 0 21 (hd.over (by omega) (by omega) (.inr (by omega)) 21 (by rw [if_neg (by omega)])), ⟨_, rfl⟩⟩

set_option maxRecDepth 100000 in
theorem look_any (B rb : Nat) (bs : List UInt8) (k e m : Nat) (w : World) (h : Rdr w B rb bs k e) (hm : U64 m) :
    Calls Try.prog 38 #[.pointer (some ⟨rb, 0, none⟩), .int .u64 m] w fun x w' => x = .returned (tri (lookR bs k e m)) ∧ Drawn w w' := by
  by_cases he : e = 0
  · subst he
    have hk := h.2.1
    obtain ⟨sl, ho, _, _, c0, c1, c2, _⟩ := h.cells
    have ho' := ho
    rcases ho.2 with ⟨rfl, h0⟩ | ⟨g, cap, cur, rfl, _, _, h1, h2, _⟩
    · rw [h0] at hk
      have hk0 : k = 0 := by omega
      subst hk0
      exact look_none rb bs 0 m 0 none w h0 rfl (by omega) c0 c1 c2
    · have hcm : cap ≤ 9223372036854775807 := by unfold maxLen at h2; omega
      by_cases hck : cap = k
      · have hbk : bs.length = k := by omega
        rw [hbk] at c0
        exact look_none rb bs k m cap _ w hbk hck.symm hcm c0 c1 c2
      · exact look_some B rb bs k m g cap w hk hm hck ho' h1 hcm c0 c1 c2
  · exact look_err B rb bs k e m w h he

end Go.Proofs.Ytnpbhpidciiciaa
