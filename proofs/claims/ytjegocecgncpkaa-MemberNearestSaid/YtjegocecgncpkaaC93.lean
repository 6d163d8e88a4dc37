/- Texts that the proof is made of, joined. No condition. -/
import Derived.Test.YtjegocecgncpkaaC92
import Derived.Test.YtjegocecgncpkaaC90
import Derived.IntWalk
import Derived.Test.YtjegocecgncpkaaC9H
set_option linter.unusedVariables false
set_option linter.unusedSimpArgs false
set_option maxRecDepth 100000
set_option maxHeartbeats 16000000
namespace Go.Proofs.Ytjegocecgncpkaa.R
open Go.RowKit Go.Proofs.Ytjegocecgncpkaa.D Go.Proofs.Ytjegocecgncpkaa.O Go.Proofs.Ytjegocecgncpkaa.A
theorem rdX_at {ok : Nat → Prop} {w : World} {p : Option Addr} {n c : Nat} {ys : List ByteArray} (h : RdX 1 (sP strC) ok w (.slice p n c) ys) {i : Nat} {y : ByteArray} (hi : ys[i]? = some y) :
    ∃ b off, p = some ⟨b, off, none⟩ ∧ n = ys.length ∧ n ≤ c ∧ ok b ∧ b < w.heap.size ∧ w.cell? ⟨b, off + i, none⟩ = some (.string y) := by
  obtain ⟨b, off, rfl, rfl, h1, h2, h3, h4⟩ := h.place (fun e => by rw [e] at hi; simp at hi)
  obtain ⟨l, e, hc⟩ := h4 i y hi
  have e : l = strC y := e
  subst e
  have := hc 0 _ rfl
  rw [Nat.mul_one, Nat.add_zero] at this
  exact ⟨b, off, rfl, rfl, h1, h2, h3, this⟩
theorem back_next {ys : List ByteArray} {k : Nat} {y : ByteArray} (h : ys[k]? = some y) (xs : List ByteArray) : xs ++ (ys.drop k).reverse = (xs ++ (ys.drop (k + 1)).reverse) ++ [y] := by
  obtain ⟨hk, rfl⟩ := List.getElem?_eq_some_iff.1 h
  rw [List.drop_eq_getElem_cons hk, List.reverse_cons, List.append_assoc]
def Next (w w' : World) (v v' : Value) : Prop := S.Kpt v.ownBlock.toList w w' ∧ ∀ g, v'.ownBlock = some g → v.ownBlock = some g ∨ w.heap.size ≤ g
theorem Next.app {w wr w' : World} {v0 v v' : Value} (h : Next w wr v0 v) (o : Obj) (hg : (wr.alloc o).grownBy w' v.ownBlock) (hl : v'.ownBlock = v.ownBlock ∨ v'.ownBlock = some (wr.heap.size + 1)) : Next w w' v0 v' := by
  have k : S.Kpt v.ownBlock.toList wr w' := (S.Kpt.alloc _ wr o).trans (.of_grown (S := v.ownBlock.toList) hg (fun g e => .inl (by rw [e]; simp))) (fun x hx => .inl hx)
  refine ⟨h.1.trans k (fun x hx => ?_), fun g e => ?_⟩
  · rcases h.2 x (by simpa using hx) with e | e
    · exact .inl (by simpa using e)
    · exact .inr e
  · rcases hl with e' | e'
    · rw [e'] at e; exact h.2 g e
    · rw [e'] at e
      cases e
      exact .inr (by have := h.1.size; omega)
set_option maxHeartbeats 4000000 in
set_option maxRecDepth 100000 in
theorem behind_t (B : Nat) (v : Value) (xs ys : List ByteArray) (p : Option Addr) (c : Nat) (ok : Nat → Prop) (w : World) (hown : S.OwnC S.cS 9 w B v xs) (hr : RdX 1 (sP strC) ok w (.slice p ys.length c) ys) (hok : ∀ b, ok b → v.ownBlock ≠ some b) (hB : B ≤ w.heap.size) (hl : xs.length + ys.length ≤ 900000) :
    Calls Try.prog 85 #[v, .slice p ys.length c] w fun e w' => ∃ v', e = .returned v' ∧ S.OwnC S.cS 9 w' B v' (xs ++ ys.reverse) ∧ Next w w' v v' := by
  obtain ⟨va, vn, vk, hv⟩ := hown.slice
  have HO := Lib.hid hown
  have HR := Lib.hid hr
  have hcap : ys.length ≤ c := by obtain ⟨_, _, e, h, _⟩ := hr; simp only [Value.slice.injEq] at e; rw [e.2.2]; exact h
  clear hown hr
  subst hv
  go_enter Try.func85, Try.ntmps85
  go_wp2_with fail
  go_loopg [0, 5] ys.length (fun g v x wr => x = .int .i64 ((g : Int) - 1) ∧ g ≤ ys.length ∧ Hid (S.OwnC S.cS 9 wr B v (xs ++ (ys.drop g).reverse)) ∧ Hid (Next w wr (.slice va vn vk) v))
  case atStart => exact ⟨rfl, Nat.le_refl _, by rw [List.drop_length, List.reverse_nil, List.append_nil]; exact HO, Lib.hid ⟨S.Kpt.refl _ _, fun g h => .inl h⟩⟩
  case round =>
    clear HO
    obtain ⟨rfl, hg, HO, HN⟩ := hrel
    cases gk with
    | zero =>
      go_wp2_with fail
      go_ret
      rw [List.drop_zero] at HO
      exact ⟨_, rfl, HO.out, HN.out⟩
    | succ g =>
      rw [show ((g + 1 : Nat) : Int) - 1 = (g : Int) by omega]
      obtain ⟨y, hy⟩ : ∃ y, ys[g]? = some y := ⟨_, List.getElem?_eq_getElem (by omega)⟩
      obtain ⟨b, off, rfl, -, -, hb, hbl, hc⟩ := rdX_at HR.out hy
      have hne : b ∉ (Value.slice va vn vk).ownBlock.toList := by have := hok b hb; simpa using this
      have hc2 : wr.cell? ⟨b, off + g, none⟩ = some (.string y) := by rw [World.cell?_of_block (w := w) (a := ⟨b, off + g, none⟩) (HN.out.1.2 b hbl hne)]; exact hc
      have hbl2 : b < wr.heap.size := Nat.lt_of_lt_of_le hbl HN.out.1.size
      have HY := Lib.hid hy
      have HNE := Lib.hid hne
      have hBr : B ≤ wr.heap.size := Nat.le_trans hB HN.out.1.size
      have g0 : (0 : Int) ≤ (g : Int) := by omega
      have g1 : (g : Int) < (ys.length : Int) := by omega
      clear hy hne hc
      obtain ⟨ua, un, uk, hu⟩ := HO.out.slice
      have HU := Lib.hid hu
      clear hu
      have HX := Lib.hid (S.rd_one (c := S.cS) (x := y) (heap_alloc_new wr (.cells #[.string y] 9)) rfl)
      have HOa := Lib.hid (HO.out.alloc (.cells #[.string y] 9))
      have hlen : (xs ++ (ys.drop (g + 1)).reverse).length + 1 ≤ 1000000 := by simp; omega
      go_wp2_with (at_builtin; refine S.wp_appC S.infS (fun _ => rfl) rfl _ _ rfl B _ _ rfl HOa.out (fun _ => True) _ [y] rfl HX.out hlen (by simp; omega) ?_)
      intro v6 w6 ho6 hg6 hl6
      have HO6 : Hid (S.OwnC S.cS 9 w6 B v6 (xs ++ (ys.drop g).reverse)) := Lib.hid (by rw [back_next HY.out, List.append_assoc]; exact ho6)
      have HN6 := Lib.hid (HN.out.app _ hg6 hl6)
      clear ho6 hg6 hl6 HO HX HOa HN hc2 hlen HU
      go_wp2_with fail
      go_roundg g
      case measure => omega
      case rel => exact ⟨by go_num, by omega, HO6, HN6⟩
def ClI (B sb mb : Nat) (v v7 : Value) (L l lf : List ByteArray) (w0 w : World) : Prop :=
  ChI B sb mb v L l w0 w ∧ S.OwnC S.cS 9 w B v7 lf.reverse ∧ v7.ownBlock ≠ some sb ∧ v7.ownBlock ≠ some mb ∧ ∀ g, v.ownBlock = some g → v7.ownBlock ≠ some g
theorem ClI.bel {B sb mb : Nat} {v v7 : Value} {L l lf : List ByteArray} {w0 w w' : World} (h : ClI B sb mb v v7 L l lf w0 w) (hb : Below w.heap.size w w') : ClI B sb mb v v7 L l lf w0 w' := by
  obtain ⟨h1, h2, h3, h4, h5⟩ := h
  exact ⟨h1.bel hb, h2.kpt (S.Kpt.of_below (S := []) hb) (by simp), h3, h4, h5⟩
theorem ClI.add {B sb mb : Nat} {v v7 : Value} {L L' l lf : List ByteArray} {w0 w w' : World} (h : ClI B sb mb v v7 L l lf w0 w) (hs : S.StS w' B sb mb L') (hk : S.Kpt [mb] w w') : ClI B sb mb v v7 L' l lf w0 w' := by
  obtain ⟨h1, h2, h3, h4, h5⟩ := h
  exact ⟨h1.add hs hk, h2.kpt hk (fun g e => by rw [e] at h4; simpa using h4), h3, h4, h5⟩
theorem ClI.app {B sb mb : Nat} {v v' v7 : Value} {L l l' lf : List ByteArray} {w0 w w' : World} (h : ClI B sb mb v v7 L l lf w0 w) (ho : S.OwnC S.cS 9 w' B v' l') (hg : w.grownBy w' v.ownBlock) (hl : v'.ownBlock = v.ownBlock ∨ v'.ownBlock = some w.heap.size) : ClI B sb mb v' v7 L l' lf w0 w' := by
  obtain ⟨h1, h2, h3, h4, h5⟩ := h
  have k : S.Kpt v.ownBlock.toList w w' := .of_grown hg (fun g e => .inl (by rw [e]; simp))
  refine ⟨h1.app ho hg hl, h2.kpt k (fun g e hx => h5 g (by simpa using hx) e), h3, h4, fun g e e7 => ?_⟩
  rcases hl with e' | e'
  · rw [e'] at e; exact h5 g e e7
  · rw [e'] at e
    cases e
    exact Nat.lt_irrefl _ (h2.lt _ e7).2
theorem ClI.left {B sb mb : Nat} {v v7 v7' : Value} {L l lf lf' : List ByteArray} {w0 w w' : World} (h : ClI B sb mb v v7 L l lf w0 w) (ho : S.OwnC S.cS 9 w' B v7' lf'.reverse) (hn : Next w w' v7 v7') : ClI B sb mb v v7' L l lf' w0 w' := by
  obtain ⟨⟨a1, a2, a3, a4, a5, a6⟩, h2, h3, h4, h5⟩ := h
  obtain ⟨k, hn⟩ := hn
  obtain ⟨l1, l2, _⟩ := a3.lt
  have out : ∀ {x : Nat}, x < w.heap.size → v7.ownBlock ≠ some x → v7'.ownBlock ≠ some x := fun {x} hx hne e => by
    rcases hn x e with e' | e'
    · exact hne e'
    · omega
  refine ⟨⟨a1.trans (k.below (fun x hx => ?_) a2), Nat.le_trans a2 k.size, a3.kpt k (by simpa using h3) (by simpa using h4), a4.kpt k (fun g e hx => h5 g e (by simpa using hx)), a5, a6⟩, ho, out l1 h3, out l2 h4, fun g e => out (a4.lt g e).2 (h5 g e)⟩
  have : v7.ownBlock = some x := by simpa using hx
  exact (h2.lt x this).1
theorem ClI.pop {B sb mb g N cap : Nat} {v : Value} {L l lf : List ByteArray} {n : ByteArray} {w0 w : World} (h : ClI B sb mb v (.slice (some ⟨g, 0, none⟩) (N + 1) cap) L l (n :: lf) w0 w) (hN : N = lf.length) : ClI B sb mb v (.slice (some ⟨g, 0, none⟩) N cap) L l lf w0 w := by
  obtain ⟨h1, h2, h3, h4, h5⟩ := h
  refine ⟨h1, ?_, h3, h4, h5⟩
  have := h2.front (k := N) (by simp; omega) (by simp)
  rwa [List.reverse_cons, List.take_left' (by simp; omega)] at this
theorem ClI.form {B sb mb : Nat} {v v7 : Value} {L l lf : List ByteArray} {n : ByteArray} {w0 w : World} (h : ClI B sb mb v v7 L l (n :: lf) w0 w) : ∃ g N cap, v7 = .slice (some ⟨g, 0, none⟩) (N + 1) cap ∧ N = lf.length ∧ N + 1 ≤ cap ∧ g < w.heap.size ∧ w.cell? ⟨g, N, none⟩ = some (.string n) := by
  rcases h.2.1.cells with ⟨_, e⟩ | ⟨g, cap, cur, e, _, hg, _, hc, _, hcc, _⟩
  · simp at e
  · have hl : (n :: lf).reverse.length = lf.length + 1 := by simp
    rw [hl] at e hc
    refine ⟨g, lf.length, cap, e, rfl, hc, hg, ?_⟩
    have := hcc lf.length n (by simp)
    exact this
theorem ClI.none {B sb mb : Nat} {v v7 : Value} {L l : List ByteArray} {w0 w : World} (h : ClI B sb mb v v7 L l [] w0 w) : ∃ p cap, v7 = .slice p 0 cap := by
  obtain ⟨p, cap, e, _⟩ := h.2.1.rd.form
  exact ⟨p, cap, e⟩
set_option maxHeartbeats 4000000 in
set_option maxRecDepth 100000 in
theorem closed_t (ok : Nat → Prop) (tb mt : Nat) (vs : Value) (K : List Cls) (w : World) (h : TrW w ok tb mt vs K) (ys : List ByteArray) (p : Option Addr) (c : Nat) (ok2 : Nat → Prop) (hr : RdX 1 (sP strC) ok2 w (.slice p ys.length c) ys) (hl : ys.length ≤ 200000) (hs : ∀ x ∈ ys, x.size ≤ maxLen) :
    Calls Try.prog 83 #[.pointer (some ⟨tb, 0, none⟩), .slice p ys.length c] w fun e w' => ∃ p' c', e = .returned (.slice p' (closedT (K.map skOf) ys).length c') ∧ S.OwnC S.cS 9 w' w.heap.size (.slice p' (closedT (K.map skOf) ys).length c') (closedT (K.map skOf) ys) ∧ Below w.heap.size w w' := by
  obtain ⟨R, hR⟩ : ∃ x, closedT (K.map skOf) ys = x := ⟨_, rfl⟩
  obtain ⟨T, hT⟩ : ∃ x, K.map skOf = x := ⟨_, rfl⟩
  have HT := Lib.hid h
  have HS : Hid (SzT T) := Lib.hid (by rw [← hT]; exact h.2.2.2.2.2)
  have HF : Hid (closedF T (ys.length + costT [] T) [] ys = R) := Lib.hid (by rw [← hT]; exact hR)
  have HTT := Lib.hid hT
  have HSY := Lib.hid hs
  have HRY := Lib.hid hr
  have hTl := HS.out.1
  have hcost := HS.out.cost
  rw [hR]
  clear h hR hT hs hr
  go_enter Try.func83, Try.ntmps83
  go_wp2_with fail
  refine (S.new_S (.slice none 0 0) [] (fun _ => True) w (S.RdC.nil _ _) (fun x hx => by cases hx) (by simp)).mono ?_
  rintro e w1 ⟨sb, mb, rfl, hs, hb⟩
  have H1 : Hid (ChI w.heap.size sb mb (.slice none 0 0) [] [] w w1) := Lib.hid ⟨hb, hb.size, hs, S.OwnC.nil _ _, by simp [Value.ownBlock], by simp [Value.ownBlock]⟩
  clear hs hb
  go_wp2_with fail
  refine (behind_t w.heap.size (.slice none 0 0) [] ys p c ok2 w1 (S.OwnC.nil _ _) (HRY.out.any (sP.grow _) H1.out.1) (by simp [Value.ownBlock]) H1.out.2.1 (by simp; omega)).mono ?_
  rintro e w2 ⟨v7, rfl, ho, hn⟩
  have H2 : Hid (ClI w.heap.size sb mb (.slice none 0 0) v7 [] [] ys w w2) := Lib.hid (ClI.left (v7 := .slice none 0 0) (lf := []) ⟨H1.out, S.OwnC.nil _ _, by simp [Value.ownBlock], by simp [Value.ownBlock], by simp [Value.ownBlock]⟩ (by simpa using ho) hn)
  clear ho hn H1 HRY
  go_wp2_with fail
  obtain ⟨f0, hf0⟩ : ∃ x, x = ys.length + costT [] T := ⟨_, rfl⟩
  rw [← hf0] at HF
  have hf1 : f0 ≤ 300000 := by omega
  go_loopg [5, 7] f0 (fun g v x wr => ∃ (out lf : List ByteArray), g ≤ f0 ∧ Hid (lf.length + costT out T ≤ g) ∧ Hid (Kn T out) ∧ Hid (∀ y ∈ lf, y.size ≤ maxLen) ∧ Hid (closedF T g out lf = R) ∧ Hid (ClI w.heap.size sb mb v x out out lf w wr))
  case atStart => exact ⟨[], ys, Nat.le_refl _, Lib.hid (by omega), Lib.hid (Kn.nil T), HSY, HF, H2⟩
  case round =>
    clear H2 HF HSY hf0 hcost hl
    obtain ⟨out, lf, hg, HG, HKn, HSL, HF, HI⟩ := hrel
    cases lf with
    | nil =>
      obtain ⟨q, cap, hx⟩ := HI.out.none
      subst hx
      have HE : Hid (R = out) := Lib.hid (by rw [← HF.out]; exact closed_nil)
      obtain ⟨pv, kv, hv, -⟩ := HI.out.1.2.2.2.1.rd.form
      have HV := Lib.hid hv
      clear hv
      go_wp2_with fail
      go_ret
      obtain rfl := HV.out
      rw [HE.out]
      exact ⟨_, _, rfl, HI.out.1.2.2.2.1, HI.out.1.1⟩
    | cons n lf =>
      obtain ⟨gg, N, cap, hx, hN, hNc, hgl, hcell⟩ := HI.out.form
      subst hx
      have hG := HG.out
      rw [List.length_cons] at hG
      obtain ⟨g', rfl⟩ : ∃ g', gk = g' + 1 := ⟨gk - 1, by omega⟩
      have hNb : N ≤ 300000 := by omega
      have hnm : n.size ≤ maxLen := HSL.out n (by simp)
      have HSL2 : Hid (∀ y ∈ lf, y.size ≤ maxLen) := Lib.hid (fun y hy => HSL.out y (List.mem_cons_of_mem _ hy))
      have HIp := Lib.hid (HI.out.pop hN)
      have HNN := Lib.hid hN
      have n0 : (0 : Int) ≤ (N : Int) := by omega
      have n1 : (0 : Int) < (N : Int) + 1 := by omega
      clear HI hN HG HSL
      have HGG := Lib.hid hG
      clear hG
      cases hk : knownT T n with
      | false =>
        have HF2 : Hid (closedF T g' out lf = R) := Lib.hid (by rw [← HF.out]; exact (closed_skip (.inl hk)).symm)
        clear HF
        go_wp2_with fail
        refine (known_t ok tb mt vs K n wr (HT.out.below HIp.out.1.1) hnm).mono ?_
        rintro e w3 ⟨rfl, hb3⟩
        rw [HTT.out, hk]
        have HI3 := Lib.hid (HIp.out.bel hb3)
        clear hb3 HIp hk
        go_wp2_with fail
        go_roundg g'
        case measure => omega
        case rel => exact ⟨out, lf, by omega, Lib.hid (by have := HGG.out; omega), HKn, HSL2, HF2, HI3⟩
      | true =>
        have hlen := HKn.out.len
        cases hm : S.hasB out n with
        | true =>
          have HF2 : Hid (closedF T g' out lf = R) := Lib.hid (by rw [← HF.out]; exact (closed_skip (.inr hm)).symm)
          clear HF
          go_wp2_with fail
          refine (known_t ok tb mt vs K n wr (HT.out.below HIp.out.1.1) hnm).mono ?_
          rintro e w3 ⟨rfl, hb3⟩
          rw [HTT.out, hk]
          have HI3 := Lib.hid (HIp.out.bel hb3)
          clear hb3 HIp hk
          go_wp2_with fail
          refine (S.add_S w.heap.size sb mb out n w3 HI3.out.1.2.2.1 hnm (by omega)).mono ?_
          rintro e w4 ⟨rfl, hs4, hk4⟩
          rw [hm]
          have HI4 := Lib.hid (HI3.out.add hs4 hk4)
          rw [S.addS_in (S.hasB_iff.1 hm)] at HI4
          clear hs4 hk4 HI3 hm
          go_wp2_with fail
          go_roundg g'
          case measure => omega
          case rel => exact ⟨out, lf, by omega, Lib.hid (by have := HGG.out; omega), HKn, HSL2, HF2, HI4⟩
        | false =>
          have HF2 : Hid (closedF T g' (out ++ [n]) (ifsT T n ++ lf) = R) := Lib.hid (by rw [← HF.out]; exact (closed_next hk hm).symm)
          have hmo : n ∉ out := fun hh => by rw [S.hasB_in hh] at hm; cases hm
          have HC := Lib.hid (cost_ifs (T := T) hm)
          have HKn2 := Lib.hid (HKn.out.snoc hk hmo)
          have HSL3 : Hid (∀ y ∈ ifsT T n ++ lf, y.size ≤ maxLen) := Lib.hid (fun y hy => by
            rcases List.mem_append.1 hy with hy | hy
            · exact (HS.out.ifs n).2 y hy
            · exact HSL2.out y hy)
          have hif := (HS.out.ifs n).1
          clear HF HKn HSL2
          go_wp2_with fail
          refine (known_t ok tb mt vs K n wr (HT.out.below HIp.out.1.1) hnm).mono ?_
          rintro e w3 ⟨rfl, hb3⟩
          rw [HTT.out, hk]
          have HI3 := Lib.hid (HIp.out.bel hb3)
          clear hb3 HIp hk
          go_wp2_with fail
          refine (S.add_S w.heap.size sb mb out n w3 HI3.out.1.2.2.1 hnm (by omega)).mono ?_
          rintro e w4 ⟨rfl, hs4, hk4⟩
          rw [hm]
          have HI4 := HI3.out.add hs4 hk4
          rw [S.addS_out hmo] at HI4
          have HI5 := Lib.hid (HI4.bel (below_alR w4 (.cells #[.string n] 9)))
          have hb5 := HI5.out.1.2.1
          have HX := Lib.hid (S.rd_one (c := S.cS) (x := n) (heap_alloc_new w4 (.cells #[.string n] 9)) rfl)
          have HO := Lib.hid HI5.out.1.2.2.2.1
          clear hs4 hk4 HI3 HI4 hm hmo
          obtain ⟨va, vn, vk, hv⟩ := HO.out.slice
          have HV := Lib.hid hv
          clear hv
          dsimp only [S.cS] at *
          go_wp2_with (at_builtin; refine S.wp_appC S.infS (fun _ => rfl) rfl _ _ rfl w.heap.size _ out rfl HO.out (fun _ => True) _ [n] rfl HX.out (by simp; omega) hb5 ?_)
          intro v6 w6 ho6 hg6 hl6
          have HI6 := Lib.hid (HI5.out.app ho6 hg6 (by simpa using hl6))
          clear ho6 hg6 hl6 HI5 HX HO hb5 HV
          go_wp2_with fail
          refine (own_t (fun b => ok b ∧ b < w.heap.size) tb mt vs K n w6 (HT.out.old HI6.out.1.1) hnm).mono ?_
          rw [HTT.out]
          rintro e w7 ⟨q, c7, rfl, hr7, hb7⟩
          have HI7 := Lib.hid (HI6.out.bel hb7)
          have HR7 := Lib.hid (hr7.any (sP.grow _) hb7)
          clear hr7 hb7 HI6
          go_wp2_with fail
          refine (behind_t w.heap.size _ lf.reverse (ifsT T n) q c7 _ w7 HI7.out.2.1 HR7.out (fun b hb e => by have := (HI7.out.2.1.lt b e).1; have := hb.2; omega) HI7.out.1.2.1 (by have := HNN.out; simp; omega)).mono ?_
          rintro e w8 ⟨v8, rfl, ho8, hn8⟩
          have HI8 : Hid (ClI w.heap.size sb mb v6 v8 (out ++ [n]) (out ++ [n]) (ifsT T n ++ lf) w w8) := Lib.hid (HI7.out.left (by rw [List.reverse_append]; exact ho8) hn8)
          clear ho8 hn8 HI7 HR7
          go_wp2_with fail
          go_roundg g'
          case measure => omega
          case rel => exact ⟨out ++ [n], ifsT T n ++ lf, by omega, Lib.hid (by have := HGG.out; have := HC.out; rw [List.length_append]; omega), HKn2, HSL3, HF2, HI8⟩
end Go.Proofs.Ytjegocecgncpkaa.R
namespace Go.Proofs.Ytjegocecgncpkaa.R
open Go.RowKit Go.Proofs.Ytjegocecgncpkaa.D Go.Proofs.Ytjegocecgncpkaa.O Go.Proofs.Ytjegocecgncpkaa.A
theorem own_rdX {w : World} {B : Nat} {v : Value} {xs : List ByteArray} {T : TypeId} (h : S.OwnC S.cS T w B v xs) : RdX 1 (sP strC) (fun b => B ≤ b) w v xs := by
  rcases h.cells with ⟨rfl, rfl⟩ | ⟨g, cap, cur, rfl, hb, hlt, _, h1, _, h3, _⟩
  · exact RdX.nil _ _ _ _
  · refine ⟨_, cap, rfl, h1, (fun e => by cases e), .inr ⟨g, 0, rfl, hb, hlt, fun i x hx => ⟨_, rfl, fun j u hu => ?_⟩⟩⟩
    cases j with
    | zero =>
      simp only [strC, List.getElem?_cons_zero, Option.some.injEq] at hu
      subst hu
      have := h3 i x hx
      rwa [Nat.zero_add, Nat.mul_one, Nat.add_zero]
    | succ j => simp [strC] at hu
theorem Chain_t (ok : Nat → Prop) (tb mt : Nat) (vs : Value) (K : List Cls) (n : ByteArray) (w : World) (h : TrW w ok tb mt vs K) (hn : n.size ≤ maxLen) :
    Calls Try.prog 12 #[.pointer (some ⟨tb, 0, none⟩), .string n] w fun e w' => ∃ p c, e = .returned (.slice p (chainT (K.map skOf) n).1.length c) ∧ S.OwnC S.cS 9 w' w.heap.size (.slice p (chainT (K.map skOf) n).1.length c) (chainT (K.map skOf) n).1 ∧ Below w.heap.size w w' := by
  go_enter Try.func12, Try.ntmps12
  go_wp2_with fail
  refine (chain_t ok tb mt vs K n w h hn).mono ?_
  rintro e w1 ⟨p, c, rfl, ho, hb⟩
  have HO := Lib.hid ho
  have HB := Lib.hid hb
  clear ho hb h
  go_wp2_with fail
  go_ret
  exact ⟨_, _, rfl, HO.out, HB.out⟩
theorem wp_appR {w : World} {ops : Array Oper} {rest : List Oper} {o : Oper} {a : Act} {Q : Exit → Act → World → Prop} (hgd : o.guard = none) (s x : Operand)
    (ho : o.op = .call { callee := .builtin .append, args := #[s, x], argTypes := #[30, 30] })
    (B : Nat) (v : Value) (xs : List ByteArray) (hs : a.eval s = v) (hown : S.OwnC S.cS 9 w B v xs) (ok : Nat → Prop) (v2 : Value) (ys : List ByteArray) (hx : a.eval x = v2) (hy : RdX 1 (sP strC) ok w v2 ys)
    (hb : xs.length + ys.length ≤ 1000000) (hbase : B ≤ w.heap.size)
    (h : ∀ v' w', S.OwnC S.cS 9 w' B v' (xs ++ ys) → w.grownBy w' v.ownBlock → (v'.ownBlock = v.ownBlock ∨ v'.ownBlock = some w.heap.size) → wpList Try.prog ops Q rest (a.put o.dst v') w') :
    wpList Try.prog ops Q (o :: rest) a w := by
  have hy' := hy
  obtain ⟨p, cap, e2, hle, hnone, hcs⟩ := hy
  by_cases hcap : cap ≤ maxLen
  · refine S.wp_appC S.infS (fun _ => rfl) hgd s x ho B v xs hs hown ok v2 ys hx ⟨p, cap, e2, hle, hnone, hcap, ?_⟩ hb hbase h
    rcases hcs with hcs | ⟨b, off, rfl, hb, hlt, _⟩
    · exact .inl hcs
    · refine .inr ⟨b, off, rfl, hb, hlt, fun i y hi => ?_⟩
      subst e2
      obtain ⟨b', off', e', _, _, _, _, hc⟩ := rdX_at hy' hi
      cases e'
      exact hc
  · obtain ⟨hi1, hu, hz, hbb⟩ := S.infS
    obtain ⟨i0, hi, hz0, hz1, hz2⟩ := info_parts hi1
    subst e2
    cases p with
    | none =>
      have hc0 := hnone rfl
      rw [hc0] at hcap
      exact absurd (Nat.zero_le _) hcap
    | some ad =>
      refine wpList_append_own_at w hgd s x 30 ho B 9 i0 _ 1 16 hu hi hz0 hz1 hz2 hz (by decide) v xs.length (xs.map S.cS) hs hown ad ys.length cap (ys.map S.cS) hx (by simp) ?_ (by simp [Value.oneCell']) (by unfold maxLen; omega) (by omega) hbase ?_
      · intro j u hj
        rw [List.getElem?_map, Option.map_eq_some_iff] at hj
        obtain ⟨y, hy1, rfl⟩ := hj
        obtain ⟨b', off', e', _, _, _, _, hc⟩ := rdX_at hy' hy1
        cases e'
        rw [S.add_add _ j rfl]
        exact hc
      · intro v' w' g1 g2 _ g4
        refine h v' w' ?_ g2 g4
        unfold S.OwnC
        rw [List.length_append, List.map_append]
        exact g1
set_option maxHeartbeats 4000000 in
set_option maxRecDepth 100000 in
theorem Ifaces_t (ok : Nat → Prop) (tb mt : Nat) (vs : Value) (K : List Cls) (n : ByteArray) (w : World) (h : TrW w ok tb mt vs K) (hn : n.size ≤ maxLen) :
    Calls Try.prog 69 #[.pointer (some ⟨tb, 0, none⟩), .string n] w fun e w' => ∃ p c, e = .returned (.slice p (ifacesT (K.map skOf) n).length c) ∧ S.OwnC S.cS 9 w' w.heap.size (.slice p (ifacesT (K.map skOf) n).length c) (ifacesT (K.map skOf) n) ∧ Below w.heap.size w w' := by
  obtain ⟨R, hR⟩ : ∃ x, ifacesT (K.map skOf) n = x := ⟨_, rfl⟩
  obtain ⟨T, hT⟩ : ∃ x, K.map skOf = x := ⟨_, rfl⟩
  have HT := Lib.hid h
  have HS : Hid (SzT T) := Lib.hid (by rw [← hT]; exact h.2.2.2.2.2)
  have HR : Hid (closedT T (wideT T n) = R) := Lib.hid (by rw [← hT]; exact hR)
  have HTT := Lib.hid hT
  rw [hR]
  clear h hR hT
  have HW := Lib.hid (HS.out.wide n)
  have HKC := Lib.hid (chain_kn T n)
  have hclen := HKC.out.len
  have hTl := HS.out.1
  go_enter Try.func69, Try.ntmps69
  go_wp2_with fail
  refine (Chain_t ok tb mt vs K n w HT.out hn).mono ?_
  rw [HTT.out]
  rintro e w1 ⟨p, c, rfl, ho, hb⟩
  obtain ⟨l, hl⟩ : ∃ l, (chainT T n).1 = l := ⟨_, rfl⟩
  have HWT : Hid (wideT T n = l.flatMap (ifsT T)) := Lib.hid (by rw [← hl]; rfl)
  rw [hl] at ho hclen HKC ⊢
  clear hl
  have HL := Lib.hid (own_rdX ho)
  have hcap : l.length ≤ c := by obtain ⟨_, _, e, h, _⟩ := HL.out; simp only [Value.slice.injEq] at e; rw [e.2.2]; exact h
  have HB := Lib.hid hb
  clear ho hb
  have hz1 := HB.out.size
  go_wp2_with fail
  go_loopw [5, 12] (fun v x wr => ∃ i : Nat, x = .int .i64 (i : Int) ∧ i ≤ l.length ∧ Hid (S.OwnC S.cS 9 wr w1.heap.size v ((l.take i).flatMap (ifsT T))) ∧ Hid (Below w1.heap.size w1 wr)) (fun _ x _ => l.length - (intOf x).toNat)
  case atStart => exact ⟨0, rfl, by omega, Lib.hid (S.OwnC.nil _ _), Lib.hid (Below.refl _ _)⟩
  case round =>
    obtain ⟨i, rfl, hi, HO, HBr⟩ := hrel
    by_cases hlt : i < l.length
    · obtain ⟨y, hy⟩ : ∃ y, l[i]? = some y := ⟨_, List.getElem?_eq_getElem hlt⟩
      obtain ⟨b, off, rfl, -, -, hbk, hbl, hc⟩ := rdX_at HL.out hy
      have hlt' : (i : Int) < (l.length : Int) := by omega
      have i0 : (0 : Int) ≤ (i : Int) := by omega
      have hc2 : wr.cell? ⟨b, off + i, none⟩ = some (.string y) := (HBr.out.cell hbl).trans hc
      have hym := HS.out.kn HKC.out y (List.mem_of_getElem? hy)
      have HE : Hid ((l.take (i + 1)).flatMap (ifsT T) = (l.take i).flatMap (ifsT T) ++ ifsT T y) := Lib.hid (by
        obtain ⟨hi', e⟩ := List.getElem?_eq_some_iff.1 hy
        rw [List.take_succ_eq_append_getElem hi', e, List.flatMap_append]; simp)
      have hfl : ((l.take i).flatMap (ifsT T)).length + (ifsT T y).length ≤ 1000000 := by
        have h1 := flat_few HS.out (l.take i)
        have h2 := (HS.out.ifs y).1
        have h3 : (l.take i).length ≤ l.length := by rw [List.length_take]; omega
        omega
      have HFL := Lib.hid hfl
      obtain ⟨va, vn, vk, hv⟩ := HO.out.slice
      have HV := Lib.hid hv
      clear hy hc hfl hv
      go_wp2_with fail
      refine (own_t ok tb mt vs K y wr (HT.out.below (HB.out.trans (HBr.out.mono hz1))) hym).mono ?_
      rw [HTT.out]
      rintro e w2 ⟨q, c2, rfl, hr2, hb2⟩
      have HR2 := Lib.hid (hr2.any (sP.grow _) hb2)
      have HO2 := Lib.hid (HO.out.kpt (S.Kpt.of_below (S := []) hb2) (by simp))
      have HB2 := Lib.hid (HBr.out.trans (hb2.mono HBr.out.size))
      have hz2 := HB2.out.size
      clear hr2 hb2 HO HBr hc2
      go_wp2_with (at_builtin; refine wp_appR rfl _ _ rfl w1.heap.size _ _ rfl HO2.out ok _ (ifsT T y) rfl HR2.out HFL.out hz2 ?_)
      intro v3 w3 ho3 hg3 hl3
      have k3 : S.Kpt _ w2 w3 := .of_grown (S := _) hg3 (fun g e => .inl (by rw [e]; exact List.mem_singleton.2 rfl : g ∈ (Option.toList (Value.ownBlock _))))
      have HO3 : Hid (S.OwnC S.cS 9 w3 w1.heap.size v3 ((l.take (i + 1)).flatMap (ifsT T))) := Lib.hid (by rw [HE.out]; exact ho3)
      have HB3 : Hid (Below w1.heap.size w1 w3) := Lib.hid (HB2.out.trans (k3.below (fun x hx => (HO2.out.lt x (by simpa using hx)).1) hz2))
      clear ho3 hg3 hl3 k3 HO2 HR2 HB2
      go_wp2_with fail
      go_roundw
      case rel => exact ⟨i + 1, by go_num, by omega, HO3, HB3⟩
      case measure => simp [intOf]; omega
    · have hlt' : ¬ (i : Int) < (l.length : Int) := by omega
      obtain rfl : i = l.length := by omega
      rw [List.take_length, ← HWT.out] at HO
      obtain ⟨pv, kv, hv, -⟩ := HO.out.rd.form
      subst hv
      have hbw := HB.out.trans (HBr.out.mono hz1)
      go_wp2_with fail
      refine (closed_t ok tb mt vs K wr (HT.out.below hbw) (wideT T n) pv kv _ (own_rdX HO.out) HW.out.1 HW.out.2).mono ?_
      rw [HTT.out, HR.out]
      rintro e w2 ⟨q, c2, rfl, ho2, hb2⟩
      have HO2 := Lib.hid (ho2.mono hbw.size)
      have HB2 := Lib.hid (hbw.trans (hb2.mono hbw.size))
      clear ho2 hb2 hbw
      go_wp2_with fail
      go_ret
      exact ⟨_, _, rfl, HO2.out, HB2.out⟩
end Go.Proofs.Ytjegocecgncpkaa.R
namespace Go.Proofs.Ytjegocecgncpkaa.A
open Go.RowKit Go.Proofs.Ytjegocecgncpkaa.D Go.Proofs.Ytjegocecgncpkaa.O
def InsAns (x : Ins) (w : World) (e : Ending) (w' : World) : Prop := e = .returned (insV x) ∧ Below w.heap.size w w'
theorem one_v (o : Int) (w : World) : Calls Try.prog 25 #[.int .i64 o] w (InsAns (iOne o) w) := by
  go_enter Try.func25, Try.ntmps25
  go_wp2
  refine bodyPost_ret (v := insV (iOne o)) (by simp [results, Try.results25, go_sem, insV, iOne, es]) rfl ⟨rfl, ?_⟩
  exact (Below.refl _ _).alloc (Nat.le_refl _) _
theorem at_v (o k : Int) (w : World) : Calls Try.prog 26 #[.int .i64 o, .int .i64 k] w (InsAns (iAt o k) w) := by
  go_enter Try.func26, Try.ntmps26
  go_wp2
  refine bodyPost_ret (v := insV (iAt o k)) (by simp [results, Try.results26, go_sem, insV, iAt, es]) rfl ⟨rfl, ?_⟩
  exact (Below.refl _ _).alloc (Nat.le_refl _) _
theorem num_v (n : Int) (w : World) (hn : -2147483648 ≤ n ∧ n ≤ 2147483647) : Calls Try.prog 53 #[.int .i64 n] w (InsAns (iNum n) w) := by
  go_enter Try.func53, Try.ntmps53
  go_wp2
  refine bodyPost_ret (v := insV (iNum n)) (by simp [results, Try.results53, go_sem, insV, iNum, es]) rfl ⟨rfl, ?_⟩
  exact (Below.refl _ _).alloc (Nat.le_refl _) _
theorem str_v (s : ByteArray) (w : World) : Calls Try.prog 54 #[.string s] w (InsAns (iStr s) w) := by
  go_enter Try.func54, Try.ntmps54
  go_wp2
  refine bodyPost_ret (v := insV (iStr s)) (by simp [results, Try.results54, go_sem, insV, iStr, es]) rfl ⟨rfl, ?_⟩
  exact (Below.refl _ _).alloc (Nat.le_refl _) _
theorem of_v (o : Int) (c : ByteArray) (w : World) : Calls Try.prog 24 #[.int .i64 o, .string c] w (InsAns (iOf o c) w) := by
  go_enter Try.func24, Try.ntmps24
  go_wp2
  refine bodyPost_ret (v := insV (iOf o c)) (by simp [results, Try.results24, go_sem, insV, iOf, es]) rfl ⟨rfl, ?_⟩
  exact (Below.refl _ _).alloc (Nat.le_refl _) _
theorem part_v (o : Int) (c m : ByteArray) (w : World) : Calls Try.prog 60 #[.int .i64 o, .string c, .string m] w (InsAns (iPart o c m) w) := by
  go_enter Try.func60, Try.ntmps60
  go_wp2
  refine bodyPost_ret (v := insV (iPart o c m)) (by simp [results, Try.results60, go_sem, insV, iPart, es]) rfl ⟨rfl, ?_⟩
  exact (Below.refl _ _).alloc (Nat.le_refl _) _
theorem call_v (o : Int) (c m d : ByteArray) (w : World) : Calls Try.prog 59 #[.int .i64 o, .string c, .string m, .string d] w (InsAns (iCall o c m d) w) := by
  go_enter Try.func59, Try.ntmps59
  go_wp2
  refine bodyPost_ret (v := insV (iCall o c m d)) (by simp [results, Try.results59, go_sem, insV, iCall, es]) rfl ⟨rfl, ?_⟩
  exact (Below.refl _ _).alloc (Nat.le_refl _) _
def BdP (w : World) (B bb : Nat) (vl vh : Value) (st : BS) : Prop :=
  w.heap[bb]? = some (.cells #[vl, vh] 96 (0, 0)) ∧ B ≤ bb ∧ OwnX 7 71 (sP insC) w B vl st.1 ∧ OwnX 4 117 (sP hndC) w B vh st.2 ∧
  vl.ownBlock ≠ some bb ∧ vh.ownBlock ≠ some bb ∧ (∀ g, vl.ownBlock = some g → vh.ownBlock ≠ some g)
def Bd (w : World) (B bb : Nat) (st : BS) : Prop := ∃ vl vh, BdP w B bb vl vh st
theorem OwnX.kptS {α : Type} {sz : Nat} {T : TypeId} {c : α → List Value} {w w' : World} {B : Nat} {v : Value} {xs : List α} {S : List Nat} (h : OwnX sz T (sP c) w B v xs) (hk : Kpt S w w') (hS : ∀ g, v.ownBlock = some g → g ∉ S) : OwnX sz T (sP c) w' B v xs := by
  obtain ⟨cs, h1, h2⟩ := h
  have hlt := World.ownsRow.lt h1
  refine ⟨cs, ⟨h1.1, ?_⟩, h2⟩
  rcases h1.2 with hn | ⟨g, cap, cur, rfl, hb, hg, rest⟩
  · exact .inl hn
  · exact .inr ⟨g, cap, cur, rfl, hb, by rw [hk.2 g (hlt g rfl).2 (hS g rfl)]; exact hg, rest⟩
theorem BdP.lt {w : World} {B bb : Nat} {vl vh : Value} {st : BS} (h : BdP w B bb vl vh st) : bb < w.heap.size := (Array.getElem?_eq_some_iff.1 h.1).1
theorem BdP.cells {w : World} {B bb : Nat} {vl vh : Value} {st : BS} (h : BdP w B bb vl vh st) : bb < w.heap.size ∧ w.cell? ⟨bb, 0, none⟩ = some vl ∧ w.cell? ⟨bb, 1, none⟩ = some vh ∧ w.frozen? ⟨bb, 0, none⟩ = false ∧ w.frozen? ⟨bb, 1, none⟩ = false := by
  refine ⟨h.lt, ?_, ?_, ?_, ?_⟩ <;> simp [World.cell?, World.frozen?, h.1]
theorem BdP.below {w w' : World} {B bb : Nat} {vl vh : Value} {st : BS} (h : BdP w B bb vl vh st) (hb : Below w.heap.size w w') : BdP w' B bb vl vh st := by
  have hlt := h.lt
  obtain ⟨h1, h2, h3, h4, h5, h6, h7⟩ := h
  have hk : Kpt [] w w' := .of_below hb
  exact ⟨(hb.block bb hlt).trans h1, h2, h3.kptS hk (fun _ _ => by simp), h4.kptS hk (fun _ _ => by simp), h5, h6, h7⟩
theorem Bd.below {w w' : World} {B bb : Nat} {st : BS} (h : Bd w B bb st) (hb : Below w.heap.size w w') : Bd w' B bb st := by
  obtain ⟨vl, vh, h⟩ := h
  exact ⟨vl, vh, h.below hb⟩
def Built (B bb : Nat) (st : BS) (w : World) (e : Ending) (w' : World) : Prop := e = .returned (.tuple #[]) ∧ Bd w' B bb st ∧ Below B w w'
theorem rdX_lits {α : Type} {sz : Nat} {c : α → List Value} (hsz : ∀ x, (c x).length = sz) (w : World) (ys : List α) (cs : Array Value) (T : TypeId) (h : cs.toList = ys.flatMap c) :
    RdX sz (sP c) anyB (w.alloc (.cells cs T)) (.slice (some ⟨w.heap.size, 0, none⟩) ys.length ys.length) ys := by
  refine ⟨_, _, rfl, Nat.le_refl _, (fun h => by cases h), .inr ⟨_, _, rfl, trivial, by simp, fun i x hx => ⟨_, rfl, fun j u hu => ?_⟩⟩⟩
  have key : ∀ (l : List α) (i : Nat), l[i]? = some x → (l.flatMap c)[i * sz + j]? = some u := by
    intro l
    induction l with
    | nil => intro i h; simp at h
    | cons a l ih =>
      intro i hi
      rw [List.flatMap_cons]
      cases i with
      | zero =>
        simp only [List.getElem?_cons_zero, Option.some.injEq] at hi
        subst hi
        rw [Nat.zero_mul, Nat.zero_add, List.getElem?_append_left (List.getElem?_eq_some_iff.1 hu).1]
        exact hu
      | succ i =>
        rw [List.getElem?_append_right (by rw [hsz, Nat.succ_mul]; omega), hsz, Nat.succ_mul, show i * sz + sz + j - sz = i * sz + j by omega]
        exact ih i (by simpa using hi)
  have := key ys i hx
  rw [← h] at this
  rw [Array.getElem?_toList] at this
  simp [Nat.zero_add, this]
theorem insC_len (x : Ins) : (insC x).length = 7 := rfl
theorem BdP.setL {w w1 : World} {B bb : Nat} {vl vh v' : Value} {st : BS} {L : List Ins} (h : BdP w B bb vl vh st) (hB : B ≤ w.heap.size) (ho : OwnX 7 71 (sP insC) w1 B v' L) (hg : w.grownBy w1 vl.ownBlock) (hl : v'.ownBlock = vl.ownBlock ∨ v'.ownBlock = some w.heap.size) :
    bb < w1.heap.size ∧ w1.cell? ⟨bb, 0, none⟩ = some vl ∧ w1.frozen? ⟨bb, 0, none⟩ = false ∧ Bd (w1.setCell ⟨bb, 0, none⟩ v') B bb (L, st.2) ∧ Below B w (w1.setCell ⟨bb, 0, none⟩ v') := by
  have hlt := h.lt
  obtain ⟨h1, h2, h3, h4, h5, h6, h7⟩ := h
  have hw1 : w1.heap[bb]? = some (.cells #[vl, vh] 96 (0, 0)) := by rw [hg.block bb hlt (fun e => h5 e.symm)]; exact h1
  have k1 : Kpt vl.ownBlock.toList w w1 := .of_grown hg (fun g e => .inl (by rw [e]; simp))
  have k2 : Kpt [bb] w1 (w1.setCell ⟨bb, 0, none⟩ v') := Kpt.set _ _ _ _ _ (by simp)
  have hne : v'.ownBlock ≠ some bb := by
    rcases hl with e | e
    · rw [e]; exact h5
    · rw [e]; simp only [ne_eq, Option.some.injEq]; omega
  refine ⟨Nat.lt_of_lt_of_le hlt hg.size, by simp [World.cell?, hw1], by simp [World.frozen?, hw1], ⟨v', vh, ?_, h2, ho.kptS k2 (fun g e => by simp; rintro rfl; exact hne e), (h4.kptS k1 (fun g e => by simp; intro e'; exact h7 g e' e)).kptS k2 (fun g e => by simp; rintro rfl; exact h6 e), hne, h6, fun g e => ?_⟩, ?_⟩
  · rw [heap_setCell_same w1 bb 0 _ _ _ hw1]; rfl
  · rcases hl with e' | e'
    · exact h7 g (e' ▸ e)
    · rw [e'] at e
      cases e
      intro e2
      have := (h4.lt _ e2).2
      omega
  · have b1 : Below B w w1 := ⟨hg.os, hg.tape, hg.output, hg.size, fun k hk => hg.block k (by omega) (fun e => by have := (h3.lt k e.symm).1; omega)⟩
    exact b1.trans (k2.below (fun x hx => by simp at hx; omega) (Nat.le_trans hB hg.size))
theorem wp_appM {α : Type} {sz bytes : Nat} {T TS : TypeId} {z : Value} (hI : Inf T TS sz bytes z) {c : α → List Value} (hS : Shape (sP c) sz) {w : World} {ops : Array Oper} {rest : List Oper} {o : Oper} {a : Act} {Q : Exit → Act → World → Prop} (hgd : o.guard = none) (s x : Operand)
    (ho : o.op = .call { callee := .builtin .append, args := #[s, x], argTypes := #[TS, TS] })
    (B : Nat) (v : Value) (xs : List α) (hs : a.eval s = v) (hown : OwnX sz T (sP c) w B v xs) (g off n cap : Nat) (ys : List α) (hx : a.eval x = .slice (some ⟨g, off, none⟩) n cap) (hr : RdX sz (sP c) anyB w (.slice (some ⟨g, off, none⟩) n cap) ys)
    (hb : xs.length + ys.length ≤ 1000000) (hbase : B ≤ w.heap.size)
    (h : ∀ v' w', OwnX sz T (sP c) w' B v' (xs ++ ys) → w.grownBy w' v.ownBlock → (v'.ownBlock = v.ownBlock ∨ v'.ownBlock = some w.heap.size) → wpList Try.prog ops Q rest (a.put o.dst v') w') :
    wpList Try.prog ops Q (o :: rest) a w := by
  refine wpList_plain hgd fun K hK => ?_
  obtain ⟨p', cap', e, h1, h2, h3⟩ := hr
  simp only [Value.slice.injEq] at e
  obtain ⟨rfl, rfl, rfl⟩ := e
  obtain ⟨v', w', hrun, g1, g2, g4⟩ := run_appX hI (sP.grow c) hS w B v xs ys hown ⟨g, off, none⟩ cap (fun i u hu => by
    rcases h3 with rfl | ⟨b, off', e, _, _, hc⟩
    · simp at hu
    · simp only [Option.some.injEq, Addr.mk.injEq, and_true] at e
      obtain ⟨rfl, rfl⟩ := e
      obtain ⟨vs, hv, hcell⟩ := hc i u hu
      refine ⟨vs, hv, fun j u hu => ?_⟩
      have := hcell j u hu
      unfold Addr.add
      split
      · rename_i h0
        rw [show g = g from rfl] at this
        have e0 : off + i * sz + j = off := by omega
        rw [e0] at this
        exact this
      · rw [Nat.add_assoc] at this
        exact this) hb hbase o.type
  unfold Oper.wp execOp
  simp only [ho, resolve, invoke, builtin, Sem.run_bind, Sem.run_pure, Result.andThen_ok, List.map_toArray, List.map_cons, List.map_nil, hs, hx]
  simp only [hrun]
  exact hK _ _ (h v' w' g1 g2 g4)
set_option maxHeartbeats 1000000 in
set_option maxRecDepth 100000 in
theorem add_b (B bb : Nat) (st : BS) (g n cap : Nat) (ys : List Ins) (w : World) (h : Bd w B bb st) (hB : B ≤ w.heap.size) (hr : RdX 7 (sP insC) anyB w (.slice (some ⟨g, 0, none⟩) n cap) ys) (hl : st.1.length + ys.length ≤ 1000000) :
    Calls Try.prog 52 #[.pointer (some ⟨bb, 0, none⟩), .slice (some ⟨g, 0, none⟩) n cap] w (Built B bb (bAdd ys st) w) := by
  obtain ⟨vl, vh, h⟩ := h
  obtain ⟨q1, c0, c1, f0, f1⟩ := h.cells
  have HO := Lib.hid h.2.2.1
  have HR := Lib.hid hr
  have HH := Lib.hid h
  clear h hr
  go_enter Try.func52, Try.ntmps52
  go_wp2_with (at_builtin; refine wp_appM inf_ins shape_ins rfl _ _ rfl B vl st.1 rfl HO.out g 0 n cap ys rfl HR.out hl hB ?_)
  intro v2 w2 ho2 hg2 hl2
  obtain ⟨d0, d1, d2, d3, d4⟩ := HH.out.setL hB ho2 hg2 hl2
  obtain ⟨p2, n2, cc2, hv2⟩ := ho2.slice
  subst hv2
  clear ho2 hg2 hl2
  go_wp2_with fail
  exact bodyPost_end (results_none rfl _ _ _) rfl ⟨rfl, d3, d4⟩
end Go.Proofs.Ytjegocecgncpkaa.A
namespace Go.Proofs.Ytjegocecgncpkaa.A
open Go.RowKit Go.Proofs.Ytjegocecgncpkaa.D Go.Proofs.Ytjegocecgncpkaa.O
theorem one_x (o : Int) (w : World) : Calls Try.prog 25 #[.int .i64 o] w fun e w' => e = .returned (.agg #[.int .i64 o, .int .i32 0, .int .i64 0, .string ⟨#[]⟩, .string ⟨#[]⟩, .string ⟨#[]⟩, .string ⟨#[]⟩]) ∧ Below w.heap.size w w' := one_v o w
theorem at_x (o k : Int) (w : World) : Calls Try.prog 26 #[.int .i64 o, .int .i64 k] w fun e w' => e = .returned (.agg #[.int .i64 o, .int .i32 0, .int .i64 k, .string ⟨#[]⟩, .string ⟨#[]⟩, .string ⟨#[]⟩, .string ⟨#[]⟩]) ∧ Below w.heap.size w w' := at_v o k w
theorem num_x (n : Int) (w : World) (hn : -2147483648 ≤ n ∧ n ≤ 2147483647) : Calls Try.prog 53 #[.int .i64 n] w fun e w' => e = .returned (.agg #[.int .i64 1, .int .i32 n, .int .i64 0, .string ⟨#[]⟩, .string ⟨#[]⟩, .string ⟨#[]⟩, .string ⟨#[]⟩]) ∧ Below w.heap.size w w' := num_v n w hn
theorem str_x (s : ByteArray) (w : World) : Calls Try.prog 54 #[.string s] w fun e w' => e = .returned (.agg #[.int .i64 2, .int .i32 0, .int .i64 0, .string s, .string ⟨#[]⟩, .string ⟨#[]⟩, .string ⟨#[]⟩]) ∧ Below w.heap.size w w' := str_v s w
theorem of_x (o : Int) (c : ByteArray) (w : World) : Calls Try.prog 24 #[.int .i64 o, .string c] w fun e w' => e = .returned (.agg #[.int .i64 o, .int .i32 0, .int .i64 0, .string ⟨#[]⟩, .string c, .string ⟨#[]⟩, .string ⟨#[]⟩]) ∧ Below w.heap.size w w' := of_v o c w
theorem part_x (o : Int) (c m : ByteArray) (w : World) : Calls Try.prog 60 #[.int .i64 o, .string c, .string m] w fun e w' => e = .returned (.agg #[.int .i64 o, .int .i32 0, .int .i64 0, .string ⟨#[]⟩, .string c, .string m, .string ⟨#[]⟩]) ∧ Below w.heap.size w w' := part_v o c m w
theorem call_x (o : Int) (c m d : ByteArray) (w : World) : Calls Try.prog 59 #[.int .i64 o, .string c, .string m, .string d] w fun e w' => e = .returned (.agg #[.int .i64 o, .int .i32 0, .int .i64 0, .string ⟨#[]⟩, .string c, .string m, .string d]) ∧ Below w.heap.size w w' := call_v o c m d w
theorem rdX_lit1 {α : Type} {sz : Nat} {c : α → List Value} (hsz : ∀ x, (c x).length = sz) (w : World) (y : α) (cs : Array Value) (T : TypeId) (h : cs.toList = c y) :
    RdX sz (sP c) anyB (w.alloc (.cells cs T)) (.slice (some ⟨w.heap.size, 0, none⟩) 1 1) [y] := rdX_lits hsz w [y] cs T (by rw [h]; simp)
def Bs (B bb : Nat) (st : BS) (w0 w : World) : Prop := Bd w B bb st ∧ Below B w0 w ∧ B ≤ w.heap.size
theorem Bs.next {B bb : Nat} {st : BS} {w0 w w' : World} (h : Bs B bb st w0 w) (hb : Below w.heap.size w w') : Bs B bb st w0 w' := ⟨h.1.below hb, h.2.1.trans (hb.mono h.2.2), Nat.le_trans h.2.2 hb.size⟩
theorem Bs.lit {B bb : Nat} {st : BS} {w0 w : World} (h : Bs B bb st w0 w) (o : Obj) : Bs B bb st w0 (w.alloc o) := h.next ((Below.refl _ _).alloc (Nat.le_refl _) _)
theorem add_s {B bb : Nat} {st : BS} {w0 w : World} (H : Bs B bb st w0 w) (ys : List Ins) (cs : Array Value) (hcs : cs.toList = ys.flatMap insC) (n : Nat) (hn : n = ys.length) (hl : st.1.length + ys.length ≤ 1000000) :
    Calls Try.prog 52 #[.pointer (some ⟨bb, 0, none⟩), .slice (some ⟨w.heap.size, 0, none⟩) n n] (w.alloc (.cells cs 71)) fun e w' => e = .returned (.tuple #[]) ∧ Bs B bb (bAdd ys st) w0 w' := by
  subst hn
  have hL := H.lit (.cells cs 71)
  refine (add_b B bb st _ _ _ ys _ hL.1 hL.2.2 (rdX_lits insC_len w ys cs 71 hcs) hl).mono ?_
  rintro e w' ⟨rfl, h1, h2⟩
  exact ⟨rfl, h1, hL.2.1.trans h2, Nat.le_trans hL.2.2 h2.size⟩
theorem part_set {cs : List Value} {sz k : Nat} {u : Value} (i : Nat) (j : Nat) (hk : k = i * sz + j) (hj : j < sz) (i' : Nat) :
    ((cs.set k u).drop (i' * sz)).take sz = if i' = i then ((cs.drop (i * sz)).take sz).set j u else (cs.drop (i' * sz)).take sz := by
  subst hk
  rw [List.drop_set]
  by_cases h : i' = i
  · subst h
    rw [if_neg (by omega), if_pos rfl, List.take_set, show i' * sz + j - i' * sz = j by omega]
  · rw [if_neg h]
    by_cases h2 : i * sz + j < i' * sz
    · rw [if_pos h2]
    · rw [if_neg h2, List.take_set]
      have h3 : i' < i := by
        apply Nat.lt_of_not_le
        intro h4
        have : (i + 1) * sz ≤ i' * sz := Nat.mul_le_mul_right _ (by omega)
        rw [Nat.succ_mul] at this
        omega
      have h5 : (i' + 1) * sz ≤ i * sz := Nat.mul_le_mul_right _ (by omega)
      rw [Nat.succ_mul] at h5
      rw [List.set_eq_of_length_le]
      rw [List.length_take]
      omega
theorem OwnX.put1 {α : Type} {sz : Nat} {T : TypeId} {c : α → List Value} {w : World} {B : Nat} {v : Value} {xs : List α} (h : OwnX sz T (sP c) w B v xs) {i j : Nat} {x y : α} {u : Value} (hi : xs[i]? = some x) (hj : j < sz) (hc : c y = (c x).set j u) :
    ∃ g cap, v = .slice (some ⟨g, 0, none⟩) xs.length cap ∧ xs.length ≤ cap ∧ B ≤ g ∧ g < w.heap.size ∧ (∀ k, w.frozen? ⟨g, k, none⟩ = false) ∧ (∀ k u', (c x)[k]? = some u' → w.cell? ⟨g, i * sz + k, none⟩ = some u') ∧ OwnX sz T (sP c) (w.setCell ⟨g, i * sz + j, none⟩ u) B v (xs.set i y) := by
  have hrd := h.rd (sP.grow c)
  obtain ⟨cs, h1, h2⟩ := h
  have hil : i < xs.length := (List.getElem?_eq_some_iff.1 hi).1
  rcases h1.2 with ⟨rfl, hn⟩ | ⟨g, cap, cur, rfl, hb, hg, hle, hm, hs, ht⟩
  · omega
  · refine ⟨g, cap, rfl, hle, hb, (Array.getElem?_eq_some_iff.1 hg).1, fun k => by simp [World.frozen?, hg], fun k u' hu => ?_, cs.set (i * sz + j) u, ⟨by rw [List.length_set, List.length_set]; exact h1.1, .inr ⟨g, cap, cur.setIfInBounds (i * sz + j) u, by rw [List.length_set], hb, ?_, by rw [List.length_set]; exact hle, hm, by simp [hs], ?_⟩⟩, fun i' x' hx' => ?_⟩
    · obtain ⟨b', off', e', -, -, -, -, hcc⟩ := hrd.place (fun e => by rw [e] at hil; simp at hil)
      simp only [Option.some.injEq, Addr.mk.injEq, and_true] at e'
      obtain ⟨rfl, rfl⟩ := e'
      have := sP_at (hcc i x hi) k u' hu
      rw [Nat.zero_add] at this
      exact this
    · exact heap_setCell_same w g (i * sz + j) cur T u hg
    · rw [Array.toList_setIfInBounds, List.take_set, List.length_set, ht]
    · rw [part_set i j rfl hj i']
      rw [List.getElem?_set] at hx'
      by_cases e : i = i'
      · subst e
        rw [if_pos rfl, if_pos hil] at hx'
        cases hx'
        rw [if_pos rfl, h2 i x hi]
        exact hc.symm
      · rw [if_neg e] at hx'
        rw [if_neg (fun h => e h.symm)]
        exact h2 i' x' hx'
end Go.Proofs.Ytjegocecgncpkaa.A
