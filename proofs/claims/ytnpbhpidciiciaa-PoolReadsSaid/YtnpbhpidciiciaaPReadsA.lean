/- What PoolReads is made of: how long what is read is; an append that leaves the old slice as it was. -/
import Derived.Test.YtnpbhpidciiciaaPOpen
import Derived.Test.YtnpbhpidciiciaaPRefRd
import Derived.Test.YtnpbhpidciiciaaLawReads2
import Derived.ArgAppend
namespace Go.Proofs.Ytnpbhpidciiciaa
open Go.RowKit Go.Maps

theorem textR_k {bs l : List UInt8} {k e m k' e' : Nat} (hk : k ≤ bs.length) (he : e < 100) (h : textR bs k e m = (l, k', e')) : k' ≤ bs.length := by
  rcases hN : numR bs k e m with ⟨v, k1, e1⟩
  have hf := numR_le hk he hN
  rw [textR_num hN] at h
  by_cases h0 : e1 = 0
  · rw [if_pos h0] at h
    by_cases h1 : bs.length - k1 < v
    · rw [if_pos h1] at h
      simp only [Prod.mk.injEq] at h
      omega
    · rw [if_neg h1] at h
      simp only [Prod.mk.injEq] at h
      omega
  · rw [if_neg h0] at h
    simp only [Prod.mk.injEq] at h
    omega

theorem textsR_le (bs : List UInt8) : ∀ (n k e : Nat), k ≤ bs.length → e < 100 → (textsR bs n k e).1.length ≤ n ∧ (∀ s ∈ (textsR bs n k e).1, s.size ≤ 1000) ∧ (textsR bs n k e).2.2 < 100
  | 0, k, e, _, he => ⟨by simp [textsR], fun s h => by simp [textsR] at h, he⟩
  | n + 1, k, e, hk, he => by
    by_cases h0 : e = 0
    · subst h0
      rcases hT : textR bs k 0 1000 with ⟨l, k', e'⟩
      have h1 := textR_le hk he hT
      have ih := textsR_le bs n k' e' (textR_k hk he hT) h1.2
      rw [textsR_more hT]
      refine ⟨by simp only [List.length_cons]; omega, fun s hs => ?_, ih.2.2⟩
      rcases List.mem_cons.1 hs with h | h
      · rw [h, tx_size]; exact h1.1
      · exact ih.2.1 s h
    · rw [textsR_stop h0]
      exact ⟨by simp, fun s h => by simp at h, he⟩

theorem poolR_le {bs : List UInt8} {k e : Nat} {L : List ByteArray} {k' e' : Nat} (hk : k ≤ bs.length) (he : e < 100) (h : poolR bs k e = (L, k', e')) : L.length ≤ 10000 ∧ (∀ s ∈ L, s.size ≤ 1000) ∧ e' < 100 := by
  rcases hN : numR bs k e 10000 with ⟨n, k1, e1⟩
  have hf := numR_le hk he hN
  rw [poolR_num hN] at h
  have := textsR_le bs n k1 e1 hf.2.1 hf.2.2
  rw [h] at this
  exact ⟨Nat.le_trans this.1 hf.1, this.2.1, this.2.2⟩

/-- what an append makes in the old row leaves the old slice as it was -/
theorem Own.front {w : World} {B g cap : Nat} {l m : List UInt8} (h : Own w B (.slice (some ⟨g, 0, none⟩) (l ++ m).length cap) (l ++ m)) : Own w B (.slice (some ⟨g, 0, none⟩) l.length cap) l := by
  rcases h.2 with ⟨h', _⟩ | ⟨g', cap', cur, he, hb, hg, h1, h2, h3, h4⟩
  · cases h'
  · simp only [Value.slice.injEq, Option.some.injEq, Addr.mk.injEq, and_true] at he
    obtain ⟨rfl, _, rfl⟩ := he
    refine ⟨by simp, .inr ⟨g, cap, cur, rfl, hb, hg, by rw [List.length_append] at h1; omega, h2, h3, ?_⟩⟩
    have : cur.toList.take (l.length * 1) = (cur.toList.take ((l ++ m).length * 1)).take (l.length * 1) := by
      rw [List.take_take, Nat.min_eq_left (by rw [List.length_append]; omega)]
    rw [this, h4, List.map_append, Nat.mul_one, List.take_left' (by simp)]

theorem wp_app_keep {w : World} {ops : Array Oper} {rest : List Oper} {o : Oper} {a : Act} {Q : Exit → Act → World → Prop} (hgd : o.guard = none) (s x : Operand)
    (ho : o.op = .call { callee := .builtin .append, args := #[s, x], argTypes := #[23, 23] })
    (B g cap : Nat) (l : List UInt8) (hs : a.eval s = .slice (some ⟨g, 0, none⟩) l.length cap) (hown : Own w B (.slice (some ⟨g, 0, none⟩) l.length cap) l) (vx : Value) (m : List UInt8) (hx : a.eval x = vx) (hrd : Rd w vx m)
    (hb : l.length + m.length ≤ 1000000) (hbase : B ≤ w.heap.size)
    (h : ∀ v' w', Own w' B v' (l ++ m) → Own w' B (.slice (some ⟨g, 0, none⟩) l.length cap) l → w.grownBy w' (some g) → wpList Try.prog ops Q rest (a.put o.dst v') w') :
    wpList Try.prog ops Q (o :: rest) a w := by
  obtain ⟨i0, hi, hz0, hz1, hz2⟩ := info_parts Try.infoB
  obtain ⟨p, c, rfl, hle, hn, hc⟩ := hrd
  have hcap : l.length ≤ cap := by
    obtain ⟨_, c', he, h1, _⟩ := hown.len
    simp only [Value.slice.injEq] at he
    omega
  have hnews : ∀ ad, p = some ad → ∀ j u, (m.map u8)[j]? = some u → w.cell? (ad.add j) = some u := by
    intro ad hp j u hj
    rw [List.getElem?_map, Option.map_eq_some_iff] at hj
    obtain ⟨b, hb1, rfl⟩ := hj
    exact hc ad hp j b hb1
  by_cases hfit : l.length + m.length ≤ cap
  · refine wpList_append_fits_any w hgd s x 23 ho B 5 i0 1 Try.underlying23 hi hz1 g l.length cap (l.map u8) hs hown p m.length c (m.map u8) hx (by simp) (fun hp => ?_) hnews (u8_one m) hfit ?_
    · have h0 := hn hp
      exact ⟨by omega, h0⟩
    · intro w' hw hg
      have ho' : Own w' B (.slice (some ⟨g, 0, none⟩) (l ++ m).length cap) (l ++ m) := by
        unfold Own
        rw [List.length_append, List.map_append]
        exact hw
      have := h _ w' ho' ho'.front hg
      rw [List.length_append] at this
      exact this
  · cases p with
    | none =>
      have h0 := hn rfl
      omega
    | some ad =>
      refine wpList_append_grows w hgd s x 23 ho 5 i0 (.int .u8 0) 1 1 Try.underlying23 hi hz0 hz1 hz2 rfl (by decide) (some ⟨g, 0, none⟩) l.length cap (l.map u8) hs (fun h => by cases h) (by simp) (fun b hb j u hj => ?_) ad m.length c (m.map u8) hx (by simp) (hnews ad rfl) (u8_one m) (by omega) (by unfold maxLen; omega) (by omega) ?_
      · cases hb
        exact World.ownsRow.cells hown (g := g) rfl j u hj
      · intro v' w' hw hg
        refine h v' w' ?_ (hown.kept hg (.inr (by simp [Value.ownBlock]))) ⟨hg.os, hg.tape, hg.output, hg.size, fun k hk _ => hg.block k hk (by simp)⟩
        have : Own w' w.heap.size v' (l ++ m) := by
          unfold Own
          rw [List.length_append, List.map_append]
          exact hw
        exact this.mono hbase

theorem Four.kpt {w w' : World} {tb : Nat} {S : List Nat} (h : Four w tb (tb + 1)) (hk : Kpt S w w') (hs : tb + 1 ≤ w.heap.size) (hS : ∀ x ∈ S, tb + 1 ≤ x) : Four w' tb (tb + 1) := h.below (hk.below hS hs)

theorem Ref.kpt2 {w w' : World} {M qb : Nat} {bs : List UInt8} {k e : Nat} {S : List Nat} (h : Ref w M qb bs k e) (hk : Kpt S w w') (hq : qb ∉ S) (hM : ∀ g, g < M → g ∉ S) : Ref w' M qb bs k e := by
  obtain ⟨h1, h2, p, c, hx, hr, hn⟩ := h
  have hlt := (Array.getElem?_eq_some_iff.1 hx).1
  refine ⟨h1, h2, p, c, ?_, hr.kpt hk (hn.imp id (fun h g hg => ⟨?_, hM g (h g hg)⟩)), hn⟩
  · rw [hk.2 qb hlt hq]
    exact hx
  · have := h g hg; omega

theorem Drawn.kpt {w w' : World} (h : Drawn w w') (S : List Nat) : Kpt S w w' := by obtain ⟨n, rfl⟩ := h; exact Kpt.drewN S w n

set_option maxHeartbeats 400000 in
set_option maxRecDepth 100000 in
theorem preads_long (v0 : Value) (p1 : Option Addr) (n1 c1 : Nat) (a c : Int) (l : List UInt8) (w : World) (hr : Rd w v0 l) (h : 60 < l.length ∨ 12 < n1) (h0 : l.length ≤ 9223372036854775807) (h1 : n1 ≤ 9223372036854775807) :
    Calls Try.prog 4 #[v0, .slice p1 n1 c1, .int .u16 a, .int .u8 c] w fun e w' => e = .returned (.bool true) ∧ Below w.heap.size w w' := by
  obtain ⟨p, c0, rfl, hrest⟩ := hr
  clear hrest
  by_cases h60 : 60 < l.length
  all_goals
    go_enter Try.func4, Try.ntmps4
    go_wp2_with fail
    refine (known_any _).mono ?_
    rintro e w0 ⟨rfl, hB0⟩
    go_wp2
    go_ret
    exact ⟨rfl, hB0⟩

end Go.Proofs.Ytnpbhpidciiciaa
