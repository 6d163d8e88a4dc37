/- The law DescTells answers true. -/
import Derived.Test.YtijbgbggmakfoaaDSome
import Derived.Test.YtijbgbggmakfoaaDWrites
import Derived.Deep.RegionWith
import Derived.Deep.RegionHeld3
import Derived.Deep.DeepCutAuto
namespace Go.Proofs.Ytijbgbggmakfoaa
open Go.RowKit

theorem RdB.take {w : World} {p : Option Addr} {cap : Nat} {zs : List Int} (h : RdB w (.slice p zs.length cap) zs) (m : Nat) (hm : m ≤ zs.length) : RdB w (.slice p m cap) (zs.take m) := by
  obtain ⟨p', cap', e, h0, h1, h2, hr, h3⟩ := h
  simp only [Value.slice.injEq, true_and] at e
  obtain ⟨rfl, rfl⟩ := e
  have hl : (zs.take m).length = m := by rw [List.length_take]; omega
  have hlt : ∀ (i : Nat) x, (zs.take m)[i]? = some x → zs[i]? = some x := by
    intro i x hx
    have hi : i < m := by
      have := (List.getElem?_eq_some_iff.1 hx).1
      rw [List.length_take] at this
      omega
    rwa [List.getElem?_take_of_lt hi] at hx
  refine ⟨p, cap, by rw [hl], by rw [hl]; omega, fun a ha hne => h1 a ha (fun e => hne (by rw [e]; simp)), fun hp => by rw [h2 hp]; simp, fun i x hx => hr i x (hlt i x hx), fun a ha i x hx => h3 a ha i x (hlt i x hx)⟩

theorem bcell {w w1 : World} (hb : Below w.heap.size w w1) : ∀ b o, b < w.heap.size → w1.cell? ⟨b, o, none⟩ = w.cell? ⟨b, o, none⟩ := fun b o h => hb.cell (p := ⟨b, o, none⟩) h

def oddT (k : Int) : ByteArray := if k % 2 = 0 then ⟨#[]⟩ else ⟨#[73]⟩

/-- the five texts -/
def five (s : ByteArray) (zs : List Int) (k : Int) : Nat → ByteArray
  | 0 => s
  | 1 => bx (someL zs)
  | 2 => (⟨#[40]⟩ ++ bx (someL zs)) ++ ⟨#[41, 86]⟩
  | 3 => ((⟨#[40]⟩ ++ bx (someL zs)) ++ ⟨#[41]⟩) ++ bx (someL (zs.take (zs.length / 2)))
  | _ => (⟨#[40, 73, 73, 73, 73, 73, 73, 73, 73]⟩ ++ oddT k) ++ ⟨#[41, 83]⟩

theorem five_kk (s : ByteArray) (zs : List Int) {k kk : Int} (h : kk = k % 2) : five s zs k = five s zs kk := by
  have : oddT k = oddT kk := by unfold oddT; rw [h, show k % 2 % 2 = k % 2 from by omega]
  funext j
  unfold five
  rw [this]

theorem five_small (s : ByteArray) (zs : List Int) (k : Int) (h1 : s.size ≤ 100) (h2 : zs.length ≤ 14) : ∀ j, (five s zs k j).size ≤ 1000 := by
  have h3 := someL_len zs
  have h4 := someL_len (zs.take (zs.length / 2))
  rw [List.length_take] at h4
  have h5 : (oddT k).size ≤ 1 := by unfold oddT; split <;> decide
  intro j
  match j with
  | 0 => show s.size ≤ 1000; omega
  | 1 => show (bx (someL zs)).size ≤ 1000; rw [bx_size]; omega
  | 2 => show ((⟨#[40]⟩ ++ bx (someL zs)) ++ ⟨#[41, 86]⟩ : ByteArray).size ≤ 1000; rw [ByteArray.size_append, ByteArray.size_append, bx_size]; show 1 + _ + 2 ≤ 1000; omega
  | 3 => show (((⟨#[40]⟩ ++ bx (someL zs)) ++ ⟨#[41]⟩) ++ bx (someL (zs.take (zs.length / 2))) : ByteArray).size ≤ 1000; rw [ByteArray.size_append, ByteArray.size_append, ByteArray.size_append, bx_size, bx_size]; show 1 + _ + 1 + _ ≤ 1000; omega
  | n + 4 => show ((⟨#[40, 73, 73, 73, 73, 73, 73, 73, 73]⟩ ++ oddT k) ++ ⟨#[41, 83]⟩ : ByteArray).size ≤ 1000; rw [ByteArray.size_append, ByteArray.size_append]; show 9 + _ + 2 ≤ 1000; omega

theorem rone_at {s : ByteArray} {t : Ty} {ok : Bool} (h : oneR s.data.toList = (t, ok)) (w : World) (hs : s.size ≤ 4294967280) :
    Calls Try.prog 10 #[.string s] w fun e w' => e = .returned (.tuple #[tyv t, .bool ok]) ∧ Below w.heap.size w w' := by
  refine (rone_any s w hs).mono fun e w' ⟨he, hb⟩ => ⟨?_, hb⟩
  rw [h] at he
  exact he

theorem rparse_at {s : ByteArray} {ps : List Ty} {t : Ty} {ok : Bool} (h : parseR s.data.toList = (ps, t, ok)) (w : World) (hs : s.size ≤ 4294967280) :
    Calls Try.prog 12 #[.string s] w fun e w' => ∃ v, e = .returned (.tuple #[v, tyv t, .bool ok]) ∧ OwnT w' w.heap.size v ps ∧ Below w.heap.size w w' := by
  refine (rparse_any s w hs).mono fun e w' ⟨v, ps', t', ok', H, he, ho, hb⟩ => ?_
  have := H.out
  rw [h] at this
  simp only [Prod.mk.injEq] at this
  obtain ⟨rfl, rfl, rfl⟩ := this
  exact ⟨v, he, ho, hb⟩

theorem parse_len {l : List UInt8} {ps : List Ty} {t : Ty} {ok : Bool} (h : parseR l = (ps, t, ok)) : ps.length ≤ 8 := by
  cases ok with
  | true => exact (parseR_text h).2.2.1
  | false =>
    unfold parseR at h
    split at h
    · split at h
      · simp at h
      · simp only [Prod.mk.injEq] at h
        rw [← h.1]
        simp
    · simp only [Prod.mk.injEq] at h
      rw [← h.1]
      simp

theorem parse_sizes {x : ByteArray} {ps : List Ty} {t : Ty} (h : parseR x.data.toList = (ps, t, true)) (hx : x.size ≤ 1000) :
    (∀ u ∈ ps, u.2.size ≤ 1000000) ∧ t.2.size ≤ 1000000 ∧ bx (ofL ps t) = x := by
  obtain ⟨h1, h2, _, h4⟩ := parseR_text h
  have hl : (ofL ps t).length ≤ 1000 := by rw [h1, ← Lib.size_eq]; exact hx
  unfold ofL at hl
  rw [List.length_cons, List.length_append, List.length_cons] at hl
  refine ⟨fun u hu => ?_, ?_, ?_⟩
  · have g1 := typeL_size (h2 u hu).1
    have g2 : (typeL u).length ≤ (ps.flatMap typeL).length := by
      obtain ⟨a, b, rfl⟩ := List.append_of_mem hu
      rw [List.flatMap_append, List.flatMap_cons, List.length_append, List.length_append]
      omega
    omega
  · have g1 := typeL_size h4
    omega
  · rw [h1, bx, Lib.mk_data]

theorem one_sizes {x : ByteArray} {t : Ty} (h : oneR x.data.toList = (t, true)) (hx : x.size ≤ 1000) : t.2.size ≤ 1000 ∧ typeT t.1 t.2 = x := by
  obtain ⟨h1, h2⟩ := oneR_text h
  have g1 := typeL_size h2
  rw [h1, ← Lib.size_eq] at g1
  refine ⟨by omega, toList_inj ?_⟩
  rw [Lib.toList_data, Lib.toList_data]
  exact h1

theorem oddT_size (k : Int) : (oddT k).size ≤ 1 := by unfold oddT; split <;> decide

/-- the table of none or one I at block B -/
def TabAt (w : World) (B : Nat) (kk : Int) : Prop := B < w.heap.size ∧ w.cell? ⟨B, kk.toNat, none⟩ = some (.string (oddT kk))
theorem TabAt.next {w w' : World} {B : Nat} {kk : Int} (h : TabAt w B kk) (hb : Below w.heap.size w w') : TabAt w' B kk :=
  ⟨Nat.lt_of_lt_of_le h.1 hb.size, (hb.cell (p := ⟨B, kk.toNat, none⟩) h.1).trans h.2⟩
theorem TabAt.alloc {w : World} {B : Nat} {kk : Int} (h : TabAt w B kk) (o : Obj) : TabAt (w.alloc o) B kk := h.next ((Below.refl w.heap.size w).alloc (Nat.le_refl _) o)
theorem tab_new (w : World) (kk : Int) (h0 : 0 ≤ kk) (h1 : kk < 2) : TabAt (w.alloc (.cells #[.string ⟨#[]⟩, .string ⟨#[73]⟩] 9)) w.heap.size kk := by
  refine ⟨by simp, ?_⟩
  have hk : kk = 0 ∨ kk = 1 := by omega
  have hb := heap_alloc_new w (.cells #[.string ⟨#[]⟩, .string ⟨#[73]⟩] 9)
  rcases hk with rfl | rfl
  · exact Lib.cell_of_heap hb 0
  · exact Lib.cell_of_heap hb 1

theorem five_cells (w : World) (s : ByteArray) (zs : List Int) (kk : Int) : ∀ j, j < 5 →
    (w.alloc (.cells #[.string s, .string (bx (someL zs)), .string ((⟨#[40]⟩ ++ bx (someL zs)) ++ ⟨#[41, 86]⟩), .string (((⟨#[40]⟩ ++ bx (someL zs)) ++ ⟨#[41]⟩) ++ bx (someL (zs.take (zs.length / 2)))), .string ((⟨#[40, 73, 73, 73, 73, 73, 73, 73, 73]⟩ ++ oddT kk) ++ ⟨#[41, 83]⟩)] 9)).cell? ⟨w.heap.size, j, none⟩ = some (.string (five s zs kk j)) := by
  intro j hj
  have hb := heap_alloc_new w (.cells #[.string s, .string (bx (someL zs)), .string ((⟨#[40]⟩ ++ bx (someL zs)) ++ ⟨#[41, 86]⟩), .string (((⟨#[40]⟩ ++ bx (someL zs)) ++ ⟨#[41]⟩) ++ bx (someL (zs.take (zs.length / 2)))), .string ((⟨#[40, 73, 73, 73, 73, 73, 73, 73, 73]⟩ ++ oddT kk) ++ ⟨#[41, 83]⟩)] 9)
  match j, hj with
  | 0, _ => exact Lib.cell_of_heap hb 0
  | 1, _ => exact Lib.cell_of_heap hb 1
  | 2, _ => exact Lib.cell_of_heap hb 2
  | 3, _ => exact Lib.cell_of_heap hb 3
  | 4, _ => exact Lib.cell_of_heap hb 4

theorem wpAnyH_and {P : Program} {ops : Array Oper} {Q : Exit → Act → World → Prop} {md : Region.Mode} {S T : World → Prop} : ∀ (fuel : Nat) (listed : Array Bool) (a : Act) (w : World),
    wpAnyH P md ops Q (fun w => S w ∧ T w) fuel listed a w → wpAnyH P md ops Q S fuel listed a w
  | 0, _, _, _, h => h
  | fuel + 1, _, _, _, h => ⟨h.1, fun i hi => wpOp_mono (fun a' w' h' => ⟨h'.1.1, wpAnyH_and fuel _ a' w' h'.2⟩) (h.2 i hi)⟩

set_option maxHeartbeats 16000000 in
set_option maxRecDepth 100000 in
theorem tells_law (s : ByteArray) (v1 : Value) (zs : List Int) (k : Int) (w : World) (hg : Glob w) (hi : RdB w v1 zs) (hk0 : 0 ≤ k) (_ : k ≤ 255) (hs : s.size ≤ 140737488355328) :
    Calls Try.prog 3 #[.string s, v1, .int .u8 k] w fun e w' => e = .returned (.bool true) ∧ Below w.heap.size w w' := by
  obtain ⟨p, cap, rfl, h0, h1, h2, hr, h3⟩ := id hi
  have HI := Lib.hid hi
  clear hr hi h1 h2 h3
  by_cases h100 : 100 < s.size
  · go_enter Try.func3, Try.ntmps3
    go_wp2_with fail
    refine (known_any _ hg).mono ?_
    rintro e w1 ⟨rfl, hb1⟩
    go_wp2_with fail
    go_ret
    exact ⟨rfl, hb1⟩
  have h100' : s.size ≤ 100 := by omega
  have h100b : decide (100 < (s.size : Int)) = false := decide_eq_false (by omega)
  by_cases h14 : 14 < zs.length
  · clear h100
    go_enter Try.func3, Try.ntmps3
    go_wp2_with fail
    refine (known_any _ hg).mono ?_
    rintro e w1 ⟨rfl, hb1⟩
    go_wp2_with fail
    go_ret
    exact ⟨rfl, hb1⟩
  have h14' : zs.length ≤ 14 := by omega
  have h14b : decide (14 < (zs.length : Int)) = false := decide_eq_false (by omega)
  clear h100 h14
  go_enter Try.func3, Try.ntmps3
  go_wp2_with fail
  refine (known_any _ hg).mono ?_
  rintro e w1 ⟨rfl, hb1⟩
  have hr1 := HI.out.below hb1 (Nat.le_refl _)
  have hr2 := hr1.take (zs.length / 2) (by omega)
  have hsl : (bx (someL zs)).size ≤ 84 := by rw [bx_size]; have := someL_len zs; omega
  have hsl2 : (bx (someL (zs.take (zs.length / 2)))).size ≤ 84 := by rw [bx_size]; have := someL_len (zs.take (zs.length / 2)); rw [List.length_take] at this; omega
  go_upto_region 5 with fail
  go_cut [54, 55, 56] (fun a b c wx => ∃ B, a = .slice (some ⟨B, 0, none⟩) 5 5 ∧ b = .int .i64 5 ∧ c = .int .i64 0 ∧ (∀ j, j < 5 → wx.cell? ⟨B, j, none⟩ = some (.string (five s zs k j))) ∧ Below w.heap.size w wx)
  case first =>
    obtain ⟨kk, hkk⟩ : ∃ kk, k.tmod 2 = kk := ⟨_, rfl⟩
    have hkk2 : kk = k % 2 := by rw [← hkk, Int.tmod_eq_emod_of_nonneg hk0]
    have hkk0 : 0 ≤ kk := by omega
    have hkk1 : kk < 2 := by omega
    have HKK := Lib.hid hkk2
    have q1 : ¬ 9223372036854775807 < 1 + (bx (someL zs)).size := by omega
    have q2 : ¬ 9223372036854775807 < 1 + (bx (someL zs)).size + 2 := by omega
    have q3 : ¬ 9223372036854775807 < 1 + (bx (someL zs)).size + 1 := by omega
    have q4 : ¬ 9223372036854775807 < 1 + (bx (someL zs)).size + 1 + (bx (someL (zs.take (zs.length / 2)))).size := by omega
    have q5 : (oddT kk).size ≤ 1 := oddT_size kk
    have q6 : ¬ 9223372036854775807 < 9 + (oddT kk).size := by omega
    have q7 : ¬ 9223372036854775807 < 9 + (oddT kk).size + 2 := by omega
    have z1 : (0 : Int) ≤ (zs.length : Int) / 2 := by omega
    have z2 : (zs.length : Int) / 2 ≤ (zs.length : Int) := by omega
    have z3 : (zs.length : Int) / 2 ≤ (cap : Int) := by omega
    have z4 : ((zs.length : Int) / 2).toNat = zs.length / 2 := by omega
    have z5 : IntKind.i64.wrap ((zs.length : Int) / 2) = (zs.length : Int) / 2 := IntWalk.i64_in _ (by omega)
    have hBd := hb1.drew
    clear hkk2 hr1 hr2
    cases p with
    | none =>
      go_wp2_with fail
      refine wp_region_held_drew (S := fun _ => True) (by kernel_rfl) trivial (fun hHeld => ?_)
      refine wpAnyH_take (i := 0) (oi := _) (v := ?_) (by rfl) (by kernel_rfl) (by kernel_rfl) (by kernel_rfl) (by intro _ _ _ h; exact h) (Or.inl ⟨by rfl, fun W hSw => ?_⟩) hHeld ?_
      rotate_left 1
      · (clear hSw; first | (go_simp; done) | (go_simp; with_reducible rfl))
      try go_frame
      refine wpAnyH_take (i := 1) (oi := _) (v := ?_) (by simp only [List.getElem?_toArray, List.getElem?_cons_succ, List.getElem?_cons_zero]; rfl) (by kernel_rfl) (by kernel_rfl) (by kernel_rfl) (by intro _ _ _ h; exact h) (Or.inl ⟨by rfl, fun W hSw => ?_⟩) hHeld ?_
      rotate_left 1
      · (clear hSw; first | (go_simp; done) | (go_simp; with_reducible rfl))
      try go_frame
      refine wpAnyH_take (i := 3) (oi := _) (v := ?_) (by simp only [List.getElem?_toArray, List.getElem?_cons_succ, List.getElem?_cons_zero]; rfl) (by kernel_rfl) (by kernel_rfl) (by kernel_rfl) (by intro _ _ _ h; exact h) (Or.inl ⟨by rfl, fun W hSw => ?_⟩) hHeld ?_
      rotate_left 1
      · (clear hSw; first | (go_simp; done) | (go_simp; with_reducible rfl))
      try go_frame
      refine wpAnyH_take (i := 7) (oi := _) (v := ?_) (by simp only [List.getElem?_toArray, List.getElem?_cons_succ, List.getElem?_cons_zero]; rfl) (by kernel_rfl) (by kernel_rfl) (by kernel_rfl) (by intro _ _ _ h; exact h) (Or.inl ⟨by rfl, fun W hSw => ?_⟩) hHeld ?_
      rotate_left 1
      · (clear hSw; first | (go_simp; done) | (go_simp; with_reducible rfl))
      try go_frame
      refine wpAnyH_take (i := 11) (oi := _) (v := ?_) (by simp only [List.getElem?_toArray, List.getElem?_cons_succ, List.getElem?_cons_zero]; rfl) (by kernel_rfl) (by kernel_rfl) (by kernel_rfl) (by intro _ _ _ h; exact h) (Or.inl ⟨by rfl, fun W hSw => ?_⟩) hHeld ?_
      rotate_left 1
      · (clear hSw; first | (go_simp; done) | (go_simp; with_reducible rfl))
      try go_frame
      refine wpAnyH_take (i := 12) (oi := _) (v := ?_) (by simp only [List.getElem?_toArray, List.getElem?_cons_succ, List.getElem?_cons_zero]; rfl) (by kernel_rfl) (by kernel_rfl) (by kernel_rfl) (by intro _ _ _ h; exact h) (Or.inl ⟨by rfl, fun W hSw => ?_⟩) hHeld ?_
      rotate_left 1
      · (clear hSw; first | (go_simp; done) | (go_simp; with_reducible rfl))
      try go_frame
      refine wpAnyH_take (i := 13) (oi := _) (v := ?_) (by simp only [List.getElem?_toArray, List.getElem?_cons_succ, List.getElem?_cons_zero]; rfl) (by kernel_rfl) (by kernel_rfl) (by kernel_rfl) (by intro _ _ _ h; exact h) (Or.inl ⟨by rfl, fun W hSw => ?_⟩) hHeld ?_
      rotate_left 1
      · (clear hSw; first | (go_simp; done) | (go_simp; with_reducible rfl))
      try go_frame
      refine wpAnyH_take (i := 14) (oi := _) (v := ?_) (by simp only [List.getElem?_toArray, List.getElem?_cons_succ, List.getElem?_cons_zero]; rfl) (by kernel_rfl) (by kernel_rfl) (by kernel_rfl) (by intro _ _ _ h; exact h) (Or.inl ⟨by rfl, fun W hSw => ?_⟩) hHeld ?_
      rotate_left 1
      · (clear hSw; first | (go_simp; done) | (go_simp; with_reducible rfl))
      try go_frame
      refine wpAnyH_take (i := 15) (oi := _) (v := ?_) (by simp only [List.getElem?_toArray, List.getElem?_cons_succ, List.getElem?_cons_zero]; rfl) (by kernel_rfl) (by kernel_rfl) (by kernel_rfl) (by intro _ _ _ h; exact h) (Or.inl ⟨by rfl, fun W hSw => ?_⟩) hHeld ?_
      rotate_left 1
      · (clear hSw; first | (go_simp; done) | (go_simp; with_reducible rfl))
      try go_frame
      refine wpAnyH_take (i := 19) (oi := _) (v := ?_) (by simp only [List.getElem?_toArray, List.getElem?_cons_succ, List.getElem?_cons_zero]; rfl) (by kernel_rfl) (by kernel_rfl) (by kernel_rfl) (by intro _ _ _ h; exact h) (Or.inl ⟨by rfl, fun W hSw => ?_⟩) hHeld ?_
      rotate_left 1
      · (clear hSw; first | (go_simp; done) | (go_simp; with_reducible rfl))
      try go_frame
      refine wpAnyH_take (i := 20) (oi := _) (v := ?_) (by simp only [List.getElem?_toArray, List.getElem?_cons_succ, List.getElem?_cons_zero]; rfl) (by kernel_rfl) (by kernel_rfl) (by kernel_rfl) (by intro _ _ _ h; exact h) (Or.inl ⟨by rfl, fun W hSw => ?_⟩) hHeld ?_
      rotate_left 1
      · (clear hSw; first | (go_simp; done) | (go_simp; with_reducible rfl))
      try go_frame
      refine wpAnyH_take (i := 27) (oi := _) (v := ?_) (by simp only [List.getElem?_toArray, List.getElem?_cons_succ, List.getElem?_cons_zero]; rfl) (by kernel_rfl) (by kernel_rfl) (by kernel_rfl) (by intro _ _ _ h; exact h) (Or.inl ⟨by rfl, fun W hSw => ?_⟩) hHeld ?_
      rotate_left 1
      · (clear hSw; first | (go_simp; done) | (go_simp; with_reducible rfl))
      try go_frame
      refine wpAnyH_ready (rs := [2, 18]) (by kernel_rfl) (by simp) ?_
      refine AllReadyH.cons (o := _) (by simp only [List.getElem?_toArray, List.getElem?_cons_succ, List.getElem?_cons_zero]; rfl) (fun K hK => ?_) ?_
      · clear hHeld
        go_simp
        refine (some_any (.slice none zs.length cap) zs _ (HI.out.below hBd (Nat.le_refl _)) h14').mono ?_
        rintro e W1 ⟨rfl, f1⟩
        have hB1 := hBd.trans (f1.mono hBd.size)
        refine hK.out _ _ trivial (fun hHeld => ?_)
        clear hK K f1  
        try go_frame
        refine wpAnyH_ready (rs := [4, 18]) (by kernel_rfl) (by simp) ?_
        refine AllReadyH.cons (o := _) (by simp only [List.getElem?_toArray, List.getElem?_cons_succ, List.getElem?_cons_zero]; rfl) (fun K hK => ?_) ?_
        · clear hHeld
          go_simp
          refine (some_any (.slice none zs.length cap) zs _ (HI.out.below hB1 (Nat.le_refl _)) h14').mono ?_
          rintro e W2 ⟨rfl, f2⟩
          have hB2 := hB1.trans (f2.mono hB1.size)
          refine hK.out _ _ trivial (fun hHeld => ?_)
          clear hK K f2 hB1 
          try go_frame
          refine wpAnyH_take (i := 5) (oi := _) (v := ?_) (by simp only [List.getElem?_toArray, List.getElem?_cons_succ, List.getElem?_cons_zero]; rfl) (by kernel_rfl) (by kernel_rfl) (by kernel_rfl) (by intro _ _ _ h; exact h) (Or.inl ⟨by rfl, fun W hSw => ?_⟩) hHeld ?_
          rotate_left 1
          · (clear hSw; first | (go_simp; done) | (go_simp; with_reducible rfl))
          try go_frame
          refine wpAnyH_take (i := 6) (oi := _) (v := ?_) (by simp only [List.getElem?_toArray, List.getElem?_cons_succ, List.getElem?_cons_zero]; rfl) (by kernel_rfl) (by kernel_rfl) (by kernel_rfl) (by intro _ _ _ h; exact h) (Or.inl ⟨by rfl, fun W hSw => ?_⟩) hHeld ?_
          rotate_left 1
          · (clear hSw; first | (go_simp; done) | (go_simp; with_reducible rfl))
          try go_frame
          refine wpAnyH_ready (rs := [8, 18]) (by kernel_rfl) (by simp) ?_
          refine AllReadyH.cons (o := _) (by simp only [List.getElem?_toArray, List.getElem?_cons_succ, List.getElem?_cons_zero]; rfl) (fun K hK => ?_) ?_
          · clear hHeld
            go_simp
            refine (some_any (.slice none zs.length cap) zs _ (HI.out.below hB2 (Nat.le_refl _)) h14').mono ?_
            rintro e W3 ⟨rfl, f3⟩
            have hB3 := hB2.trans (f3.mono hB2.size)
            refine hK.out _ _ trivial (fun hHeld => ?_)
            clear hK K f3 hB2 
            try go_frame
            refine wpAnyH_take (i := 9) (oi := _) (v := ?_) (by simp only [List.getElem?_toArray, List.getElem?_cons_succ, List.getElem?_cons_zero]; rfl) (by kernel_rfl) (by kernel_rfl) (by kernel_rfl) (by intro _ _ _ h; exact h) (Or.inl ⟨by rfl, fun W hSw => ?_⟩) hHeld ?_
            rotate_left 1
            · (clear hSw; first | (go_simp; done) | (go_simp; with_reducible rfl))
            try go_frame
            refine wpAnyH_take (i := 10) (oi := _) (v := ?_) (by simp only [List.getElem?_toArray, List.getElem?_cons_succ, List.getElem?_cons_zero]; rfl) (by kernel_rfl) (by kernel_rfl) (by kernel_rfl) (by intro _ _ _ h; exact h) (Or.inl ⟨by rfl, fun W hSw => ?_⟩) hHeld ?_
            rotate_left 1
            · (clear hSw; first | (go_simp; done) | (go_simp; with_reducible rfl))
            try go_frame
            refine wpAnyH_ready (rs := [16, 18]) (by kernel_rfl) (by simp) ?_
            refine AllReadyH.cons (o := _) (by simp only [List.getElem?_toArray, List.getElem?_cons_succ, List.getElem?_cons_zero]; rfl) (fun K hK => ?_) ?_
            · clear hHeld
              go_simp
              refine (some_any (.slice none (zs.length / 2) cap) (zs.take (zs.length / 2)) _ ((HI.out.take (zs.length / 2) (by omega)).below hB3 (Nat.le_refl _)) (by rw [List.length_take]; omega)).mono ?_
              rintro e W4 ⟨rfl, f4⟩
              have hB4 := hB3.trans (f4.mono hB3.size)
              refine hK.out _ _ trivial (fun hHeld => ?_)
              clear hK K f4 hB3 
              try go_frame
              refine wpAnyH_take (i := 17) (oi := _) (v := ?_) (by simp only [List.getElem?_toArray, List.getElem?_cons_succ, List.getElem?_cons_zero]; rfl) (by kernel_rfl) (by kernel_rfl) (by kernel_rfl) (by intro _ _ _ h; exact h) (Or.inl ⟨by rfl, fun W hSw => ?_⟩) hHeld ?_
              rotate_left 1
              · (clear hSw; first | (go_simp; done) | (go_simp; with_reducible rfl))
              try go_frame
              refine wpAnyH_ready (rs := [18]) (by kernel_rfl) (by simp) ?_
              refine AllReadyH.cons (o := _) (by simp only [List.getElem?_toArray, List.getElem?_cons_succ, List.getElem?_cons_zero]; rfl) (fun K hK => ?_) AllReadyH.nil
              clear hHeld
              go_simp
              refine hK.out _ _ trivial (fun hHeld => ?_)
              have hT5 : TabAt ((W4).alloc (.cells #[.string ⟨#[]⟩, .string ⟨#[73]⟩] 9)) W4.heap.size kk := tab_new (W4) kk hkk0 hkk1
              have hB5 := hB4.alloc hB4.size (.cells #[.string ⟨#[]⟩, .string ⟨#[73]⟩] 9)
              clear hK K hB4
              try go_frame
              refine wpAnyH_and (T := fun W => W.cell? ⟨W4.heap.size, kk.toNat, none⟩ = some (.string (oddT kk))) _ _ _ _ ?_
              replace hHeld := And.intro hHeld hT5.2
              refine wpAnyH_take (i := 21) (oi := _) (v := ?_) (by simp only [List.getElem?_toArray, List.getElem?_cons_succ, List.getElem?_cons_zero]; rfl) (by kernel_rfl) (by kernel_rfl) (by kernel_rfl) (by intro _ _ _ h; exact h) (Or.inl ⟨by rfl, fun W hSw => ?_⟩) hHeld ?_
              rotate_left 1
              · (clear hSw; first | (go_simp; done) | (go_simp; with_reducible rfl))
              try go_frame
              refine wpAnyH_take (i := 22) (oi := _) (v := ?_) (by simp only [List.getElem?_toArray, List.getElem?_cons_succ, List.getElem?_cons_zero]; rfl) (by kernel_rfl) (by kernel_rfl) (by kernel_rfl) (by intro _ _ _ h; exact h) (Or.inl ⟨by rfl, fun W hSw => ?_⟩) hHeld ?_
              rotate_left 1
              · (have hT := hSw.2; clear hSw; first | (go_simp; done) | (go_simp; with_reducible rfl))
              try go_frame
              refine wpAnyH_take (i := 23) (oi := _) (v := ?_) (by simp only [List.getElem?_toArray, List.getElem?_cons_succ, List.getElem?_cons_zero]; rfl) (by kernel_rfl) (by kernel_rfl) (by kernel_rfl) (by intro _ _ _ h; exact h) (Or.inl ⟨by rfl, fun W hSw => ?_⟩) hHeld ?_
              rotate_left 1
              · (clear hSw; first | (go_simp; done) | (go_simp; with_reducible rfl))
              try go_frame
              refine wpAnyH_take (i := 24) (oi := _) (v := ?_) (by simp only [List.getElem?_toArray, List.getElem?_cons_succ, List.getElem?_cons_zero]; rfl) (by kernel_rfl) (by kernel_rfl) (by kernel_rfl) (by intro _ _ _ h; exact h) (Or.inl ⟨by rfl, fun W hSw => ?_⟩) hHeld ?_
              rotate_left 1
              · (clear hSw; first | (go_simp; done) | (go_simp; with_reducible rfl))
              try go_frame
              refine wpAnyH_ready (rs := [25]) (by kernel_rfl) (by simp) ?_
              refine AllReadyH.cons (o := _) (by simp only [List.getElem?_toArray, List.getElem?_cons_succ, List.getElem?_cons_zero]; rfl) (fun K hK => ?_) AllReadyH.nil
              clear hHeld
              go_simp
              have hFive := five_cells ((W4).alloc (.cells #[.string ⟨#[]⟩, .string ⟨#[73]⟩] 9)) s zs kk
              rw [← five_kk s zs HKK.out] at hFive
              rw [show ((W4).alloc (.cells #[.string ⟨#[]⟩, .string ⟨#[73]⟩] 9)).heap.size = (W4).heap.size + 1 from by simp] at hFive
              have hBf := hB5.alloc hB5.size (.cells #[.string s, .string (bx (someL zs)), .string ((⟨#[40]⟩ ++ bx (someL zs)) ++ ⟨#[41, 86]⟩), .string (((⟨#[40]⟩ ++ bx (someL zs)) ++ ⟨#[41]⟩) ++ bx (someL (zs.take (zs.length / 2)))), .string ((⟨#[40, 73, 73, 73, 73, 73, 73, 73, 73]⟩ ++ oddT kk) ++ ⟨#[41, 83]⟩)] 9)
              refine hK.out _ _ ⟨trivial, (hT5.alloc _).2⟩ (fun hHeld => ?_)
              clear hK K hT5
              try go_frame
              refine wpAnyH_take (i := 26) (oi := _) (v := ?_) (by simp only [List.getElem?_toArray, List.getElem?_cons_succ, List.getElem?_cons_zero]; rfl) (by kernel_rfl) (by kernel_rfl) (by kernel_rfl) (by intro _ _ _ h; exact h) (Or.inl ⟨by rfl, fun W hSw => ?_⟩) hHeld ?_
              rotate_left 1
              · (clear hSw; first | (go_simp; done) | (go_simp; with_reducible rfl))
              try go_frame
              refine wpAnyH_done (by kernel_rfl) ?_ _
              go_wp2_with fail
              go_meet
              case rel => exact ⟨_, rfl, rfl, rfl, hFive, hBf⟩
            refine AllReadyH.cons (o := _) (by simp only [List.getElem?_toArray, List.getElem?_cons_succ, List.getElem?_cons_zero]; rfl) (fun K hK => ?_) AllReadyH.nil
            clear hHeld
            go_simp
            refine hK.out _ _ trivial (fun hHeld => ?_)
            have hT7 : TabAt ((W3).alloc (.cells #[.string ⟨#[]⟩, .string ⟨#[73]⟩] 9)) W3.heap.size kk := tab_new (W3) kk hkk0 hkk1
            have hB7 := hB3.alloc hB3.size (.cells #[.string ⟨#[]⟩, .string ⟨#[73]⟩] 9)
            clear hK K hB3
            try go_frame
            refine wpAnyH_and (T := fun W => W.cell? ⟨W3.heap.size, kk.toNat, none⟩ = some (.string (oddT kk))) _ _ _ _ ?_
            replace hHeld := And.intro hHeld hT7.2
            refine wpAnyH_take (i := 21) (oi := _) (v := ?_) (by simp only [List.getElem?_toArray, List.getElem?_cons_succ, List.getElem?_cons_zero]; rfl) (by kernel_rfl) (by kernel_rfl) (by kernel_rfl) (by intro _ _ _ h; exact h) (Or.inl ⟨by rfl, fun W hSw => ?_⟩) hHeld ?_
            rotate_left 1
            · (clear hSw; first | (go_simp; done) | (go_simp; with_reducible rfl))
            try go_frame
            refine wpAnyH_take (i := 22) (oi := _) (v := ?_) (by simp only [List.getElem?_toArray, List.getElem?_cons_succ, List.getElem?_cons_zero]; rfl) (by kernel_rfl) (by kernel_rfl) (by kernel_rfl) (by intro _ _ _ h; exact h) (Or.inl ⟨by rfl, fun W hSw => ?_⟩) hHeld ?_
            rotate_left 1
            · (have hT := hSw.2; clear hSw; first | (go_simp; done) | (go_simp; with_reducible rfl))
            try go_frame
            refine wpAnyH_take (i := 23) (oi := _) (v := ?_) (by simp only [List.getElem?_toArray, List.getElem?_cons_succ, List.getElem?_cons_zero]; rfl) (by kernel_rfl) (by kernel_rfl) (by kernel_rfl) (by intro _ _ _ h; exact h) (Or.inl ⟨by rfl, fun W hSw => ?_⟩) hHeld ?_
            rotate_left 1
            · (clear hSw; first | (go_simp; done) | (go_simp; with_reducible rfl))
            try go_frame
            refine wpAnyH_take (i := 24) (oi := _) (v := ?_) (by simp only [List.getElem?_toArray, List.getElem?_cons_succ, List.getElem?_cons_zero]; rfl) (by kernel_rfl) (by kernel_rfl) (by kernel_rfl) (by intro _ _ _ h; exact h) (Or.inl ⟨by rfl, fun W hSw => ?_⟩) hHeld ?_
            rotate_left 1
            · (clear hSw; first | (go_simp; done) | (go_simp; with_reducible rfl))
            try go_frame
            refine wpAnyH_ready (rs := [16]) (by kernel_rfl) (by simp) ?_
            refine AllReadyH.cons (o := _) (by simp only [List.getElem?_toArray, List.getElem?_cons_succ, List.getElem?_cons_zero]; rfl) (fun K hK => ?_) AllReadyH.nil
            clear hHeld
            go_simp
            refine (some_any (.slice none (zs.length / 2) cap) (zs.take (zs.length / 2)) _ ((HI.out.take (zs.length / 2) (by omega)).below hB7 (Nat.le_refl _)) (by rw [List.length_take]; omega)).mono ?_
            rintro e W8 ⟨rfl, f8⟩
            have hB8 := hB7.trans (f8.mono hB7.size)
            have hT8 := hT7.next f8
            refine hK.out _ _ ⟨trivial, hT8.2⟩ (fun hHeld => ?_)
            clear hK K f8 hB7 hT7
            try go_frame
            refine wpAnyH_take (i := 17) (oi := _) (v := ?_) (by simp only [List.getElem?_toArray, List.getElem?_cons_succ, List.getElem?_cons_zero]; rfl) (by kernel_rfl) (by kernel_rfl) (by kernel_rfl) (by intro _ _ _ h; exact h) (Or.inl ⟨by rfl, fun W hSw => ?_⟩) hHeld ?_
            rotate_left 1
            · (clear hSw; first | (go_simp; done) | (go_simp; with_reducible rfl))
            try go_frame
            refine wpAnyH_ready (rs := [25]) (by kernel_rfl) (by simp) ?_
            refine AllReadyH.cons (o := _) (by simp only [List.getElem?_toArray, List.getElem?_cons_succ, List.getElem?_cons_zero]; rfl) (fun K hK => ?_) AllReadyH.nil
            clear hHeld
            go_simp
            have hFive := five_cells (W8) s zs kk
            rw [← five_kk s zs HKK.out] at hFive
            have hBf := hB8.alloc hB8.size (.cells #[.string s, .string (bx (someL zs)), .string ((⟨#[40]⟩ ++ bx (someL zs)) ++ ⟨#[41, 86]⟩), .string (((⟨#[40]⟩ ++ bx (someL zs)) ++ ⟨#[41]⟩) ++ bx (someL (zs.take (zs.length / 2)))), .string ((⟨#[40, 73, 73, 73, 73, 73, 73, 73, 73]⟩ ++ oddT kk) ++ ⟨#[41, 83]⟩)] 9)
            refine hK.out _ _ ⟨trivial, (hT8.alloc _).2⟩ (fun hHeld => ?_)
            clear hK K hT8
            try go_frame
            refine wpAnyH_take (i := 26) (oi := _) (v := ?_) (by simp only [List.getElem?_toArray, List.getElem?_cons_succ, List.getElem?_cons_zero]; rfl) (by kernel_rfl) (by kernel_rfl) (by kernel_rfl) (by intro _ _ _ h; exact h) (Or.inl ⟨by rfl, fun W hSw => ?_⟩) hHeld ?_
            rotate_left 1
            · (clear hSw; first | (go_simp; done) | (go_simp; with_reducible rfl))
            try go_frame
            refine wpAnyH_done (by kernel_rfl) ?_ _
            go_wp2_with fail
            go_meet
            case rel => exact ⟨_, rfl, rfl, rfl, hFive, hBf⟩
          refine AllReadyH.cons (o := _) (by simp only [List.getElem?_toArray, List.getElem?_cons_succ, List.getElem?_cons_zero]; rfl) (fun K hK => ?_) AllReadyH.nil
          clear hHeld
          go_simp
          refine hK.out _ _ trivial (fun hHeld => ?_)
          have hT10 : TabAt ((W2).alloc (.cells #[.string ⟨#[]⟩, .string ⟨#[73]⟩] 9)) W2.heap.size kk := tab_new (W2) kk hkk0 hkk1
          have hB10 := hB2.alloc hB2.size (.cells #[.string ⟨#[]⟩, .string ⟨#[73]⟩] 9)
          clear hK K hB2
          try go_frame
          refine wpAnyH_and (T := fun W => W.cell? ⟨W2.heap.size, kk.toNat, none⟩ = some (.string (oddT kk))) _ _ _ _ ?_
          replace hHeld := And.intro hHeld hT10.2
          refine wpAnyH_take (i := 21) (oi := _) (v := ?_) (by simp only [List.getElem?_toArray, List.getElem?_cons_succ, List.getElem?_cons_zero]; rfl) (by kernel_rfl) (by kernel_rfl) (by kernel_rfl) (by intro _ _ _ h; exact h) (Or.inl ⟨by rfl, fun W hSw => ?_⟩) hHeld ?_
          rotate_left 1
          · (clear hSw; first | (go_simp; done) | (go_simp; with_reducible rfl))
          try go_frame
          refine wpAnyH_take (i := 22) (oi := _) (v := ?_) (by simp only [List.getElem?_toArray, List.getElem?_cons_succ, List.getElem?_cons_zero]; rfl) (by kernel_rfl) (by kernel_rfl) (by kernel_rfl) (by intro _ _ _ h; exact h) (Or.inl ⟨by rfl, fun W hSw => ?_⟩) hHeld ?_
          rotate_left 1
          · (have hT := hSw.2; clear hSw; first | (go_simp; done) | (go_simp; with_reducible rfl))
          try go_frame
          refine wpAnyH_take (i := 23) (oi := _) (v := ?_) (by simp only [List.getElem?_toArray, List.getElem?_cons_succ, List.getElem?_cons_zero]; rfl) (by kernel_rfl) (by kernel_rfl) (by kernel_rfl) (by intro _ _ _ h; exact h) (Or.inl ⟨by rfl, fun W hSw => ?_⟩) hHeld ?_
          rotate_left 1
          · (clear hSw; first | (go_simp; done) | (go_simp; with_reducible rfl))
          try go_frame
          refine wpAnyH_take (i := 24) (oi := _) (v := ?_) (by simp only [List.getElem?_toArray, List.getElem?_cons_succ, List.getElem?_cons_zero]; rfl) (by kernel_rfl) (by kernel_rfl) (by kernel_rfl) (by intro _ _ _ h; exact h) (Or.inl ⟨by rfl, fun W hSw => ?_⟩) hHeld ?_
          rotate_left 1
          · (clear hSw; first | (go_simp; done) | (go_simp; with_reducible rfl))
          try go_frame
          refine wpAnyH_ready (rs := [8]) (by kernel_rfl) (by simp) ?_
          refine AllReadyH.cons (o := _) (by simp only [List.getElem?_toArray, List.getElem?_cons_succ, List.getElem?_cons_zero]; rfl) (fun K hK => ?_) AllReadyH.nil
          clear hHeld
          go_simp
          refine (some_any (.slice none zs.length cap) zs _ (HI.out.below hB10 (Nat.le_refl _)) h14').mono ?_
          rintro e W11 ⟨rfl, f11⟩
          have hB11 := hB10.trans (f11.mono hB10.size)
          have hT11 := hT10.next f11
          refine hK.out _ _ ⟨trivial, hT11.2⟩ (fun hHeld => ?_)
          clear hK K f11 hB10 hT10
          try go_frame
          refine wpAnyH_take (i := 9) (oi := _) (v := ?_) (by simp only [List.getElem?_toArray, List.getElem?_cons_succ, List.getElem?_cons_zero]; rfl) (by kernel_rfl) (by kernel_rfl) (by kernel_rfl) (by intro _ _ _ h; exact h) (Or.inl ⟨by rfl, fun W hSw => ?_⟩) hHeld ?_
          rotate_left 1
          · (clear hSw; first | (go_simp; done) | (go_simp; with_reducible rfl))
          try go_frame
          refine wpAnyH_take (i := 10) (oi := _) (v := ?_) (by simp only [List.getElem?_toArray, List.getElem?_cons_succ, List.getElem?_cons_zero]; rfl) (by kernel_rfl) (by kernel_rfl) (by kernel_rfl) (by intro _ _ _ h; exact h) (Or.inl ⟨by rfl, fun W hSw => ?_⟩) hHeld ?_
          rotate_left 1
          · (clear hSw; first | (go_simp; done) | (go_simp; with_reducible rfl))
          try go_frame
          refine wpAnyH_ready (rs := [16]) (by kernel_rfl) (by simp) ?_
          refine AllReadyH.cons (o := _) (by simp only [List.getElem?_toArray, List.getElem?_cons_succ, List.getElem?_cons_zero]; rfl) (fun K hK => ?_) AllReadyH.nil
          clear hHeld
          go_simp
          refine (some_any (.slice none (zs.length / 2) cap) (zs.take (zs.length / 2)) _ ((HI.out.take (zs.length / 2) (by omega)).below hB11 (Nat.le_refl _)) (by rw [List.length_take]; omega)).mono ?_
          rintro e W12 ⟨rfl, f12⟩
          have hB12 := hB11.trans (f12.mono hB11.size)
          have hT12 := hT11.next f12
          refine hK.out _ _ ⟨trivial, hT12.2⟩ (fun hHeld => ?_)
          clear hK K f12 hB11 hT11
          try go_frame
          refine wpAnyH_take (i := 17) (oi := _) (v := ?_) (by simp only [List.getElem?_toArray, List.getElem?_cons_succ, List.getElem?_cons_zero]; rfl) (by kernel_rfl) (by kernel_rfl) (by kernel_rfl) (by intro _ _ _ h; exact h) (Or.inl ⟨by rfl, fun W hSw => ?_⟩) hHeld ?_
          rotate_left 1
          · (clear hSw; first | (go_simp; done) | (go_simp; with_reducible rfl))
          try go_frame
          refine wpAnyH_ready (rs := [25]) (by kernel_rfl) (by simp) ?_
          refine AllReadyH.cons (o := _) (by simp only [List.getElem?_toArray, List.getElem?_cons_succ, List.getElem?_cons_zero]; rfl) (fun K hK => ?_) AllReadyH.nil
          clear hHeld
          go_simp
          have hFive := five_cells (W12) s zs kk
          rw [← five_kk s zs HKK.out] at hFive
          have hBf := hB12.alloc hB12.size (.cells #[.string s, .string (bx (someL zs)), .string ((⟨#[40]⟩ ++ bx (someL zs)) ++ ⟨#[41, 86]⟩), .string (((⟨#[40]⟩ ++ bx (someL zs)) ++ ⟨#[41]⟩) ++ bx (someL (zs.take (zs.length / 2)))), .string ((⟨#[40, 73, 73, 73, 73, 73, 73, 73, 73]⟩ ++ oddT kk) ++ ⟨#[41, 83]⟩)] 9)
          refine hK.out _ _ ⟨trivial, (hT12.alloc _).2⟩ (fun hHeld => ?_)
          clear hK K hT12
          try go_frame
          refine wpAnyH_take (i := 26) (oi := _) (v := ?_) (by simp only [List.getElem?_toArray, List.getElem?_cons_succ, List.getElem?_cons_zero]; rfl) (by kernel_rfl) (by kernel_rfl) (by kernel_rfl) (by intro _ _ _ h; exact h) (Or.inl ⟨by rfl, fun W hSw => ?_⟩) hHeld ?_
          rotate_left 1
          · (clear hSw; first | (go_simp; done) | (go_simp; with_reducible rfl))
          try go_frame
          refine wpAnyH_done (by kernel_rfl) ?_ _
          go_wp2_with fail
          go_meet
          case rel => exact ⟨_, rfl, rfl, rfl, hFive, hBf⟩
        refine AllReadyH.cons (o := _) (by simp only [List.getElem?_toArray, List.getElem?_cons_succ, List.getElem?_cons_zero]; rfl) (fun K hK => ?_) AllReadyH.nil
        clear hHeld
        go_simp
        refine hK.out _ _ trivial (fun hHeld => ?_)
        have hT14 : TabAt ((W1).alloc (.cells #[.string ⟨#[]⟩, .string ⟨#[73]⟩] 9)) W1.heap.size kk := tab_new (W1) kk hkk0 hkk1
        have hB14 := hB1.alloc hB1.size (.cells #[.string ⟨#[]⟩, .string ⟨#[73]⟩] 9)
        clear hK K hB1
        try go_frame
        refine wpAnyH_and (T := fun W => W.cell? ⟨W1.heap.size, kk.toNat, none⟩ = some (.string (oddT kk))) _ _ _ _ ?_
        replace hHeld := And.intro hHeld hT14.2
        refine wpAnyH_take (i := 21) (oi := _) (v := ?_) (by simp only [List.getElem?_toArray, List.getElem?_cons_succ, List.getElem?_cons_zero]; rfl) (by kernel_rfl) (by kernel_rfl) (by kernel_rfl) (by intro _ _ _ h; exact h) (Or.inl ⟨by rfl, fun W hSw => ?_⟩) hHeld ?_
        rotate_left 1
        · (clear hSw; first | (go_simp; done) | (go_simp; with_reducible rfl))
        try go_frame
        refine wpAnyH_take (i := 22) (oi := _) (v := ?_) (by simp only [List.getElem?_toArray, List.getElem?_cons_succ, List.getElem?_cons_zero]; rfl) (by kernel_rfl) (by kernel_rfl) (by kernel_rfl) (by intro _ _ _ h; exact h) (Or.inl ⟨by rfl, fun W hSw => ?_⟩) hHeld ?_
        rotate_left 1
        · (have hT := hSw.2; clear hSw; first | (go_simp; done) | (go_simp; with_reducible rfl))
        try go_frame
        refine wpAnyH_take (i := 23) (oi := _) (v := ?_) (by simp only [List.getElem?_toArray, List.getElem?_cons_succ, List.getElem?_cons_zero]; rfl) (by kernel_rfl) (by kernel_rfl) (by kernel_rfl) (by intro _ _ _ h; exact h) (Or.inl ⟨by rfl, fun W hSw => ?_⟩) hHeld ?_
        rotate_left 1
        · (clear hSw; first | (go_simp; done) | (go_simp; with_reducible rfl))
        try go_frame
        refine wpAnyH_take (i := 24) (oi := _) (v := ?_) (by simp only [List.getElem?_toArray, List.getElem?_cons_succ, List.getElem?_cons_zero]; rfl) (by kernel_rfl) (by kernel_rfl) (by kernel_rfl) (by intro _ _ _ h; exact h) (Or.inl ⟨by rfl, fun W hSw => ?_⟩) hHeld ?_
        rotate_left 1
        · (clear hSw; first | (go_simp; done) | (go_simp; with_reducible rfl))
        try go_frame
        refine wpAnyH_ready (rs := [4]) (by kernel_rfl) (by simp) ?_
        refine AllReadyH.cons (o := _) (by simp only [List.getElem?_toArray, List.getElem?_cons_succ, List.getElem?_cons_zero]; rfl) (fun K hK => ?_) AllReadyH.nil
        clear hHeld
        go_simp
        refine (some_any (.slice none zs.length cap) zs _ (HI.out.below hB14 (Nat.le_refl _)) h14').mono ?_
        rintro e W15 ⟨rfl, f15⟩
        have hB15 := hB14.trans (f15.mono hB14.size)
        have hT15 := hT14.next f15
        refine hK.out _ _ ⟨trivial, hT15.2⟩ (fun hHeld => ?_)
        clear hK K f15 hB14 hT14
        try go_frame
        refine wpAnyH_take (i := 5) (oi := _) (v := ?_) (by simp only [List.getElem?_toArray, List.getElem?_cons_succ, List.getElem?_cons_zero]; rfl) (by kernel_rfl) (by kernel_rfl) (by kernel_rfl) (by intro _ _ _ h; exact h) (Or.inl ⟨by rfl, fun W hSw => ?_⟩) hHeld ?_
        rotate_left 1
        · (clear hSw; first | (go_simp; done) | (go_simp; with_reducible rfl))
        try go_frame
        refine wpAnyH_take (i := 6) (oi := _) (v := ?_) (by simp only [List.getElem?_toArray, List.getElem?_cons_succ, List.getElem?_cons_zero]; rfl) (by kernel_rfl) (by kernel_rfl) (by kernel_rfl) (by intro _ _ _ h; exact h) (Or.inl ⟨by rfl, fun W hSw => ?_⟩) hHeld ?_
        rotate_left 1
        · (clear hSw; first | (go_simp; done) | (go_simp; with_reducible rfl))
        try go_frame
        refine wpAnyH_ready (rs := [8]) (by kernel_rfl) (by simp) ?_
        refine AllReadyH.cons (o := _) (by simp only [List.getElem?_toArray, List.getElem?_cons_succ, List.getElem?_cons_zero]; rfl) (fun K hK => ?_) AllReadyH.nil
        clear hHeld
        go_simp
        refine (some_any (.slice none zs.length cap) zs _ (HI.out.below hB15 (Nat.le_refl _)) h14').mono ?_
        rintro e W16 ⟨rfl, f16⟩
        have hB16 := hB15.trans (f16.mono hB15.size)
        have hT16 := hT15.next f16
        refine hK.out _ _ ⟨trivial, hT16.2⟩ (fun hHeld => ?_)
        clear hK K f16 hB15 hT15
        try go_frame
        refine wpAnyH_take (i := 9) (oi := _) (v := ?_) (by simp only [List.getElem?_toArray, List.getElem?_cons_succ, List.getElem?_cons_zero]; rfl) (by kernel_rfl) (by kernel_rfl) (by kernel_rfl) (by intro _ _ _ h; exact h) (Or.inl ⟨by rfl, fun W hSw => ?_⟩) hHeld ?_
        rotate_left 1
        · (clear hSw; first | (go_simp; done) | (go_simp; with_reducible rfl))
        try go_frame
        refine wpAnyH_take (i := 10) (oi := _) (v := ?_) (by simp only [List.getElem?_toArray, List.getElem?_cons_succ, List.getElem?_cons_zero]; rfl) (by kernel_rfl) (by kernel_rfl) (by kernel_rfl) (by intro _ _ _ h; exact h) (Or.inl ⟨by rfl, fun W hSw => ?_⟩) hHeld ?_
        rotate_left 1
        · (clear hSw; first | (go_simp; done) | (go_simp; with_reducible rfl))
        try go_frame
        refine wpAnyH_ready (rs := [16]) (by kernel_rfl) (by simp) ?_
        refine AllReadyH.cons (o := _) (by simp only [List.getElem?_toArray, List.getElem?_cons_succ, List.getElem?_cons_zero]; rfl) (fun K hK => ?_) AllReadyH.nil
        clear hHeld
        go_simp
        refine (some_any (.slice none (zs.length / 2) cap) (zs.take (zs.length / 2)) _ ((HI.out.take (zs.length / 2) (by omega)).below hB16 (Nat.le_refl _)) (by rw [List.length_take]; omega)).mono ?_
        rintro e W17 ⟨rfl, f17⟩
        have hB17 := hB16.trans (f17.mono hB16.size)
        have hT17 := hT16.next f17
        refine hK.out _ _ ⟨trivial, hT17.2⟩ (fun hHeld => ?_)
        clear hK K f17 hB16 hT16
        try go_frame
        refine wpAnyH_take (i := 17) (oi := _) (v := ?_) (by simp only [List.getElem?_toArray, List.getElem?_cons_succ, List.getElem?_cons_zero]; rfl) (by kernel_rfl) (by kernel_rfl) (by kernel_rfl) (by intro _ _ _ h; exact h) (Or.inl ⟨by rfl, fun W hSw => ?_⟩) hHeld ?_
        rotate_left 1
        · (clear hSw; first | (go_simp; done) | (go_simp; with_reducible rfl))
        try go_frame
        refine wpAnyH_ready (rs := [25]) (by kernel_rfl) (by simp) ?_
        refine AllReadyH.cons (o := _) (by simp only [List.getElem?_toArray, List.getElem?_cons_succ, List.getElem?_cons_zero]; rfl) (fun K hK => ?_) AllReadyH.nil
        clear hHeld
        go_simp
        have hFive := five_cells (W17) s zs kk
        rw [← five_kk s zs HKK.out] at hFive
        have hBf := hB17.alloc hB17.size (.cells #[.string s, .string (bx (someL zs)), .string ((⟨#[40]⟩ ++ bx (someL zs)) ++ ⟨#[41, 86]⟩), .string (((⟨#[40]⟩ ++ bx (someL zs)) ++ ⟨#[41]⟩) ++ bx (someL (zs.take (zs.length / 2)))), .string ((⟨#[40, 73, 73, 73, 73, 73, 73, 73, 73]⟩ ++ oddT kk) ++ ⟨#[41, 83]⟩)] 9)
        refine hK.out _ _ ⟨trivial, (hT17.alloc _).2⟩ (fun hHeld => ?_)
        clear hK K hT17
        try go_frame
        refine wpAnyH_take (i := 26) (oi := _) (v := ?_) (by simp only [List.getElem?_toArray, List.getElem?_cons_succ, List.getElem?_cons_zero]; rfl) (by kernel_rfl) (by kernel_rfl) (by kernel_rfl) (by intro _ _ _ h; exact h) (Or.inl ⟨by rfl, fun W hSw => ?_⟩) hHeld ?_
        rotate_left 1
        · (clear hSw; first | (go_simp; done) | (go_simp; with_reducible rfl))
        try go_frame
        refine wpAnyH_done (by kernel_rfl) ?_ _
        go_wp2_with fail
        go_meet
        case rel => exact ⟨_, rfl, rfl, rfl, hFive, hBf⟩
      refine AllReadyH.cons (o := _) (by simp only [List.getElem?_toArray, List.getElem?_cons_succ, List.getElem?_cons_zero]; rfl) (fun K hK => ?_) AllReadyH.nil
      clear hHeld
      go_simp
      refine hK.out _ _ trivial (fun hHeld => ?_)
      have hT19 : TabAt ((w1.drew).alloc (.cells #[.string ⟨#[]⟩, .string ⟨#[73]⟩] 9)) w1.heap.size kk := tab_new (w1.drew) kk hkk0 hkk1
      have hB19 := hBd.alloc hBd.size (.cells #[.string ⟨#[]⟩, .string ⟨#[73]⟩] 9)
      clear hK K 
      try go_frame
      refine wpAnyH_and (T := fun W => W.cell? ⟨w1.heap.size, kk.toNat, none⟩ = some (.string (oddT kk))) _ _ _ _ ?_
      replace hHeld := And.intro hHeld hT19.2
      refine wpAnyH_take (i := 21) (oi := _) (v := ?_) (by simp only [List.getElem?_toArray, List.getElem?_cons_succ, List.getElem?_cons_zero]; rfl) (by kernel_rfl) (by kernel_rfl) (by kernel_rfl) (by intro _ _ _ h; exact h) (Or.inl ⟨by rfl, fun W hSw => ?_⟩) hHeld ?_
      rotate_left 1
      · (clear hSw; first | (go_simp; done) | (go_simp; with_reducible rfl))
      try go_frame
      refine wpAnyH_take (i := 22) (oi := _) (v := ?_) (by simp only [List.getElem?_toArray, List.getElem?_cons_succ, List.getElem?_cons_zero]; rfl) (by kernel_rfl) (by kernel_rfl) (by kernel_rfl) (by intro _ _ _ h; exact h) (Or.inl ⟨by rfl, fun W hSw => ?_⟩) hHeld ?_
      rotate_left 1
      · (have hT := hSw.2; clear hSw; first | (go_simp; done) | (go_simp; with_reducible rfl))
      try go_frame
      refine wpAnyH_take (i := 23) (oi := _) (v := ?_) (by simp only [List.getElem?_toArray, List.getElem?_cons_succ, List.getElem?_cons_zero]; rfl) (by kernel_rfl) (by kernel_rfl) (by kernel_rfl) (by intro _ _ _ h; exact h) (Or.inl ⟨by rfl, fun W hSw => ?_⟩) hHeld ?_
      rotate_left 1
      · (clear hSw; first | (go_simp; done) | (go_simp; with_reducible rfl))
      try go_frame
      refine wpAnyH_take (i := 24) (oi := _) (v := ?_) (by simp only [List.getElem?_toArray, List.getElem?_cons_succ, List.getElem?_cons_zero]; rfl) (by kernel_rfl) (by kernel_rfl) (by kernel_rfl) (by intro _ _ _ h; exact h) (Or.inl ⟨by rfl, fun W hSw => ?_⟩) hHeld ?_
      rotate_left 1
      · (clear hSw; first | (go_simp; done) | (go_simp; with_reducible rfl))
      try go_frame
      refine wpAnyH_ready (rs := [2]) (by kernel_rfl) (by simp) ?_
      refine AllReadyH.cons (o := _) (by simp only [List.getElem?_toArray, List.getElem?_cons_succ, List.getElem?_cons_zero]; rfl) (fun K hK => ?_) AllReadyH.nil
      clear hHeld
      go_simp
      refine (some_any (.slice none zs.length cap) zs _ (HI.out.below hB19 (Nat.le_refl _)) h14').mono ?_
      rintro e W20 ⟨rfl, f20⟩
      have hB20 := hB19.trans (f20.mono hB19.size)
      have hT20 := hT19.next f20
      refine hK.out _ _ ⟨trivial, hT20.2⟩ (fun hHeld => ?_)
      clear hK K f20 hB19 hT19
      try go_frame
      refine wpAnyH_ready (rs := [4]) (by kernel_rfl) (by simp) ?_
      refine AllReadyH.cons (o := _) (by simp only [List.getElem?_toArray, List.getElem?_cons_succ, List.getElem?_cons_zero]; rfl) (fun K hK => ?_) AllReadyH.nil
      clear hHeld
      go_simp
      refine (some_any (.slice none zs.length cap) zs _ (HI.out.below hB20 (Nat.le_refl _)) h14').mono ?_
      rintro e W21 ⟨rfl, f21⟩
      have hB21 := hB20.trans (f21.mono hB20.size)
      have hT21 := hT20.next f21
      refine hK.out _ _ ⟨trivial, hT21.2⟩ (fun hHeld => ?_)
      clear hK K f21 hB20 hT20
      try go_frame
      refine wpAnyH_take (i := 5) (oi := _) (v := ?_) (by simp only [List.getElem?_toArray, List.getElem?_cons_succ, List.getElem?_cons_zero]; rfl) (by kernel_rfl) (by kernel_rfl) (by kernel_rfl) (by intro _ _ _ h; exact h) (Or.inl ⟨by rfl, fun W hSw => ?_⟩) hHeld ?_
      rotate_left 1
      · (clear hSw; first | (go_simp; done) | (go_simp; with_reducible rfl))
      try go_frame
      refine wpAnyH_take (i := 6) (oi := _) (v := ?_) (by simp only [List.getElem?_toArray, List.getElem?_cons_succ, List.getElem?_cons_zero]; rfl) (by kernel_rfl) (by kernel_rfl) (by kernel_rfl) (by intro _ _ _ h; exact h) (Or.inl ⟨by rfl, fun W hSw => ?_⟩) hHeld ?_
      rotate_left 1
      · (clear hSw; first | (go_simp; done) | (go_simp; with_reducible rfl))
      try go_frame
      refine wpAnyH_ready (rs := [8]) (by kernel_rfl) (by simp) ?_
      refine AllReadyH.cons (o := _) (by simp only [List.getElem?_toArray, List.getElem?_cons_succ, List.getElem?_cons_zero]; rfl) (fun K hK => ?_) AllReadyH.nil
      clear hHeld
      go_simp
      refine (some_any (.slice none zs.length cap) zs _ (HI.out.below hB21 (Nat.le_refl _)) h14').mono ?_
      rintro e W22 ⟨rfl, f22⟩
      have hB22 := hB21.trans (f22.mono hB21.size)
      have hT22 := hT21.next f22
      refine hK.out _ _ ⟨trivial, hT22.2⟩ (fun hHeld => ?_)
      clear hK K f22 hB21 hT21
      try go_frame
      refine wpAnyH_take (i := 9) (oi := _) (v := ?_) (by simp only [List.getElem?_toArray, List.getElem?_cons_succ, List.getElem?_cons_zero]; rfl) (by kernel_rfl) (by kernel_rfl) (by kernel_rfl) (by intro _ _ _ h; exact h) (Or.inl ⟨by rfl, fun W hSw => ?_⟩) hHeld ?_
      rotate_left 1
      · (clear hSw; first | (go_simp; done) | (go_simp; with_reducible rfl))
      try go_frame
      refine wpAnyH_take (i := 10) (oi := _) (v := ?_) (by simp only [List.getElem?_toArray, List.getElem?_cons_succ, List.getElem?_cons_zero]; rfl) (by kernel_rfl) (by kernel_rfl) (by kernel_rfl) (by intro _ _ _ h; exact h) (Or.inl ⟨by rfl, fun W hSw => ?_⟩) hHeld ?_
      rotate_left 1
      · (clear hSw; first | (go_simp; done) | (go_simp; with_reducible rfl))
      try go_frame
      refine wpAnyH_ready (rs := [16]) (by kernel_rfl) (by simp) ?_
      refine AllReadyH.cons (o := _) (by simp only [List.getElem?_toArray, List.getElem?_cons_succ, List.getElem?_cons_zero]; rfl) (fun K hK => ?_) AllReadyH.nil
      clear hHeld
      go_simp
      refine (some_any (.slice none (zs.length / 2) cap) (zs.take (zs.length / 2)) _ ((HI.out.take (zs.length / 2) (by omega)).below hB22 (Nat.le_refl _)) (by rw [List.length_take]; omega)).mono ?_
      rintro e W23 ⟨rfl, f23⟩
      have hB23 := hB22.trans (f23.mono hB22.size)
      have hT23 := hT22.next f23
      refine hK.out _ _ ⟨trivial, hT23.2⟩ (fun hHeld => ?_)
      clear hK K f23 hB22 hT22
      try go_frame
      refine wpAnyH_take (i := 17) (oi := _) (v := ?_) (by simp only [List.getElem?_toArray, List.getElem?_cons_succ, List.getElem?_cons_zero]; rfl) (by kernel_rfl) (by kernel_rfl) (by kernel_rfl) (by intro _ _ _ h; exact h) (Or.inl ⟨by rfl, fun W hSw => ?_⟩) hHeld ?_
      rotate_left 1
      · (clear hSw; first | (go_simp; done) | (go_simp; with_reducible rfl))
      try go_frame
      refine wpAnyH_ready (rs := [25]) (by kernel_rfl) (by simp) ?_
      refine AllReadyH.cons (o := _) (by simp only [List.getElem?_toArray, List.getElem?_cons_succ, List.getElem?_cons_zero]; rfl) (fun K hK => ?_) AllReadyH.nil
      clear hHeld
      go_simp
      have hFive := five_cells (W23) s zs kk
      rw [← five_kk s zs HKK.out] at hFive
      have hBf := hB23.alloc hB23.size (.cells #[.string s, .string (bx (someL zs)), .string ((⟨#[40]⟩ ++ bx (someL zs)) ++ ⟨#[41, 86]⟩), .string (((⟨#[40]⟩ ++ bx (someL zs)) ++ ⟨#[41]⟩) ++ bx (someL (zs.take (zs.length / 2)))), .string ((⟨#[40, 73, 73, 73, 73, 73, 73, 73, 73]⟩ ++ oddT kk) ++ ⟨#[41, 83]⟩)] 9)
      refine hK.out _ _ ⟨trivial, (hT23.alloc _).2⟩ (fun hHeld => ?_)
      clear hK K hT23
      try go_frame
      refine wpAnyH_take (i := 26) (oi := _) (v := ?_) (by simp only [List.getElem?_toArray, List.getElem?_cons_succ, List.getElem?_cons_zero]; rfl) (by kernel_rfl) (by kernel_rfl) (by kernel_rfl) (by intro _ _ _ h; exact h) (Or.inl ⟨by rfl, fun W hSw => ?_⟩) hHeld ?_
      rotate_left 1
      · (clear hSw; first | (go_simp; done) | (go_simp; with_reducible rfl))
      try go_frame
      refine wpAnyH_done (by kernel_rfl) ?_ _
      go_wp2_with fail
      go_meet
      case rel => exact ⟨_, rfl, rfl, rfl, hFive, hBf⟩
    | some ad =>
      go_wp2_with fail
      refine wp_region_held_drew (S := fun _ => True) (by kernel_rfl) trivial (fun hHeld => ?_)
      refine wpAnyH_take (i := 0) (oi := _) (v := ?_) (by rfl) (by kernel_rfl) (by kernel_rfl) (by kernel_rfl) (by intro _ _ _ h; exact h) (Or.inl ⟨by rfl, fun W hSw => ?_⟩) hHeld ?_
      rotate_left 1
      · (clear hSw; first | (go_simp; done) | (go_simp; with_reducible rfl))
      try go_frame
      refine wpAnyH_take (i := 1) (oi := _) (v := ?_) (by simp only [List.getElem?_toArray, List.getElem?_cons_succ, List.getElem?_cons_zero]; rfl) (by kernel_rfl) (by kernel_rfl) (by kernel_rfl) (by intro _ _ _ h; exact h) (Or.inl ⟨by rfl, fun W hSw => ?_⟩) hHeld ?_
      rotate_left 1
      · (clear hSw; first | (go_simp; done) | (go_simp; with_reducible rfl))
      try go_frame
      refine wpAnyH_take (i := 3) (oi := _) (v := ?_) (by simp only [List.getElem?_toArray, List.getElem?_cons_succ, List.getElem?_cons_zero]; rfl) (by kernel_rfl) (by kernel_rfl) (by kernel_rfl) (by intro _ _ _ h; exact h) (Or.inl ⟨by rfl, fun W hSw => ?_⟩) hHeld ?_
      rotate_left 1
      · (clear hSw; first | (go_simp; done) | (go_simp; with_reducible rfl))
      try go_frame
      refine wpAnyH_take (i := 7) (oi := _) (v := ?_) (by simp only [List.getElem?_toArray, List.getElem?_cons_succ, List.getElem?_cons_zero]; rfl) (by kernel_rfl) (by kernel_rfl) (by kernel_rfl) (by intro _ _ _ h; exact h) (Or.inl ⟨by rfl, fun W hSw => ?_⟩) hHeld ?_
      rotate_left 1
      · (clear hSw; first | (go_simp; done) | (go_simp; with_reducible rfl))
      try go_frame
      refine wpAnyH_take (i := 11) (oi := _) (v := ?_) (by simp only [List.getElem?_toArray, List.getElem?_cons_succ, List.getElem?_cons_zero]; rfl) (by kernel_rfl) (by kernel_rfl) (by kernel_rfl) (by intro _ _ _ h; exact h) (Or.inl ⟨by rfl, fun W hSw => ?_⟩) hHeld ?_
      rotate_left 1
      · (clear hSw; first | (go_simp; done) | (go_simp; with_reducible rfl))
      try go_frame
      refine wpAnyH_take (i := 12) (oi := _) (v := ?_) (by simp only [List.getElem?_toArray, List.getElem?_cons_succ, List.getElem?_cons_zero]; rfl) (by kernel_rfl) (by kernel_rfl) (by kernel_rfl) (by intro _ _ _ h; exact h) (Or.inl ⟨by rfl, fun W hSw => ?_⟩) hHeld ?_
      rotate_left 1
      · (clear hSw; first | (go_simp; done) | (go_simp; with_reducible rfl))
      try go_frame
      refine wpAnyH_take (i := 13) (oi := _) (v := ?_) (by simp only [List.getElem?_toArray, List.getElem?_cons_succ, List.getElem?_cons_zero]; rfl) (by kernel_rfl) (by kernel_rfl) (by kernel_rfl) (by intro _ _ _ h; exact h) (Or.inl ⟨by rfl, fun W hSw => ?_⟩) hHeld ?_
      rotate_left 1
      · (clear hSw; first | (go_simp; done) | (go_simp; with_reducible rfl))
      try go_frame
      refine wpAnyH_take (i := 14) (oi := _) (v := ?_) (by simp only [List.getElem?_toArray, List.getElem?_cons_succ, List.getElem?_cons_zero]; rfl) (by kernel_rfl) (by kernel_rfl) (by kernel_rfl) (by intro _ _ _ h; exact h) (Or.inl ⟨by rfl, fun W hSw => ?_⟩) hHeld ?_
      rotate_left 1
      · (clear hSw; first | (go_simp; done) | (go_simp; with_reducible rfl))
      try go_frame
      refine wpAnyH_take (i := 15) (oi := _) (v := ?_) (by simp only [List.getElem?_toArray, List.getElem?_cons_succ, List.getElem?_cons_zero]; rfl) (by kernel_rfl) (by kernel_rfl) (by kernel_rfl) (by intro _ _ _ h; exact h) (Or.inl ⟨by rfl, fun W hSw => ?_⟩) hHeld ?_
      rotate_left 1
      · (clear hSw; first | (go_simp; done) | (go_simp; with_reducible rfl))
      try go_frame
      refine wpAnyH_take (i := 19) (oi := _) (v := ?_) (by simp only [List.getElem?_toArray, List.getElem?_cons_succ, List.getElem?_cons_zero]; rfl) (by kernel_rfl) (by kernel_rfl) (by kernel_rfl) (by intro _ _ _ h; exact h) (Or.inl ⟨by rfl, fun W hSw => ?_⟩) hHeld ?_
      rotate_left 1
      · (clear hSw; first | (go_simp; done) | (go_simp; with_reducible rfl))
      try go_frame
      refine wpAnyH_take (i := 20) (oi := _) (v := ?_) (by simp only [List.getElem?_toArray, List.getElem?_cons_succ, List.getElem?_cons_zero]; rfl) (by kernel_rfl) (by kernel_rfl) (by kernel_rfl) (by intro _ _ _ h; exact h) (Or.inl ⟨by rfl, fun W hSw => ?_⟩) hHeld ?_
      rotate_left 1
      · (clear hSw; first | (go_simp; done) | (go_simp; with_reducible rfl))
      try go_frame
      refine wpAnyH_take (i := 27) (oi := _) (v := ?_) (by simp only [List.getElem?_toArray, List.getElem?_cons_succ, List.getElem?_cons_zero]; rfl) (by kernel_rfl) (by kernel_rfl) (by kernel_rfl) (by intro _ _ _ h; exact h) (Or.inl ⟨by rfl, fun W hSw => ?_⟩) hHeld ?_
      rotate_left 1
      · (clear hSw; first | (go_simp; done) | (go_simp; with_reducible rfl))
      try go_frame
      refine wpAnyH_ready (rs := [2, 18]) (by kernel_rfl) (by simp) ?_
      refine AllReadyH.cons (o := _) (by simp only [List.getElem?_toArray, List.getElem?_cons_succ, List.getElem?_cons_zero]; rfl) (fun K hK => ?_) ?_
      · clear hHeld
        go_simp
        refine (some_any (.slice (some ad) zs.length cap) zs _ (HI.out.below hBd (Nat.le_refl _)) h14').mono ?_
        rintro e W25 ⟨rfl, f25⟩
        have hB25 := hBd.trans (f25.mono hBd.size)
        refine hK.out _ _ trivial (fun hHeld => ?_)
        clear hK K f25  
        try go_frame
        refine wpAnyH_ready (rs := [4, 18]) (by kernel_rfl) (by simp) ?_
        refine AllReadyH.cons (o := _) (by simp only [List.getElem?_toArray, List.getElem?_cons_succ, List.getElem?_cons_zero]; rfl) (fun K hK => ?_) ?_
        · clear hHeld
          go_simp
          refine (some_any (.slice (some ad) zs.length cap) zs _ (HI.out.below hB25 (Nat.le_refl _)) h14').mono ?_
          rintro e W26 ⟨rfl, f26⟩
          have hB26 := hB25.trans (f26.mono hB25.size)
          refine hK.out _ _ trivial (fun hHeld => ?_)
          clear hK K f26 hB25 
          try go_frame
          refine wpAnyH_take (i := 5) (oi := _) (v := ?_) (by simp only [List.getElem?_toArray, List.getElem?_cons_succ, List.getElem?_cons_zero]; rfl) (by kernel_rfl) (by kernel_rfl) (by kernel_rfl) (by intro _ _ _ h; exact h) (Or.inl ⟨by rfl, fun W hSw => ?_⟩) hHeld ?_
          rotate_left 1
          · (clear hSw; first | (go_simp; done) | (go_simp; with_reducible rfl))
          try go_frame
          refine wpAnyH_take (i := 6) (oi := _) (v := ?_) (by simp only [List.getElem?_toArray, List.getElem?_cons_succ, List.getElem?_cons_zero]; rfl) (by kernel_rfl) (by kernel_rfl) (by kernel_rfl) (by intro _ _ _ h; exact h) (Or.inl ⟨by rfl, fun W hSw => ?_⟩) hHeld ?_
          rotate_left 1
          · (clear hSw; first | (go_simp; done) | (go_simp; with_reducible rfl))
          try go_frame
          refine wpAnyH_ready (rs := [8, 18]) (by kernel_rfl) (by simp) ?_
          refine AllReadyH.cons (o := _) (by simp only [List.getElem?_toArray, List.getElem?_cons_succ, List.getElem?_cons_zero]; rfl) (fun K hK => ?_) ?_
          · clear hHeld
            go_simp
            refine (some_any (.slice (some ad) zs.length cap) zs _ (HI.out.below hB26 (Nat.le_refl _)) h14').mono ?_
            rintro e W27 ⟨rfl, f27⟩
            have hB27 := hB26.trans (f27.mono hB26.size)
            refine hK.out _ _ trivial (fun hHeld => ?_)
            clear hK K f27 hB26 
            try go_frame
            refine wpAnyH_take (i := 9) (oi := _) (v := ?_) (by simp only [List.getElem?_toArray, List.getElem?_cons_succ, List.getElem?_cons_zero]; rfl) (by kernel_rfl) (by kernel_rfl) (by kernel_rfl) (by intro _ _ _ h; exact h) (Or.inl ⟨by rfl, fun W hSw => ?_⟩) hHeld ?_
            rotate_left 1
            · (clear hSw; first | (go_simp; done) | (go_simp; with_reducible rfl))
            try go_frame
            refine wpAnyH_take (i := 10) (oi := _) (v := ?_) (by simp only [List.getElem?_toArray, List.getElem?_cons_succ, List.getElem?_cons_zero]; rfl) (by kernel_rfl) (by kernel_rfl) (by kernel_rfl) (by intro _ _ _ h; exact h) (Or.inl ⟨by rfl, fun W hSw => ?_⟩) hHeld ?_
            rotate_left 1
            · (clear hSw; first | (go_simp; done) | (go_simp; with_reducible rfl))
            try go_frame
            refine wpAnyH_ready (rs := [16, 18]) (by kernel_rfl) (by simp) ?_
            refine AllReadyH.cons (o := _) (by simp only [List.getElem?_toArray, List.getElem?_cons_succ, List.getElem?_cons_zero]; rfl) (fun K hK => ?_) ?_
            · clear hHeld
              go_simp
              refine (some_any (.slice (some ad) (zs.length / 2) cap) (zs.take (zs.length / 2)) _ ((HI.out.take (zs.length / 2) (by omega)).below hB27 (Nat.le_refl _)) (by rw [List.length_take]; omega)).mono ?_
              rintro e W28 ⟨rfl, f28⟩
              have hB28 := hB27.trans (f28.mono hB27.size)
              refine hK.out _ _ trivial (fun hHeld => ?_)
              clear hK K f28 hB27 
              try go_frame
              refine wpAnyH_take (i := 17) (oi := _) (v := ?_) (by simp only [List.getElem?_toArray, List.getElem?_cons_succ, List.getElem?_cons_zero]; rfl) (by kernel_rfl) (by kernel_rfl) (by kernel_rfl) (by intro _ _ _ h; exact h) (Or.inl ⟨by rfl, fun W hSw => ?_⟩) hHeld ?_
              rotate_left 1
              · (clear hSw; first | (go_simp; done) | (go_simp; with_reducible rfl))
              try go_frame
              refine wpAnyH_ready (rs := [18]) (by kernel_rfl) (by simp) ?_
              refine AllReadyH.cons (o := _) (by simp only [List.getElem?_toArray, List.getElem?_cons_succ, List.getElem?_cons_zero]; rfl) (fun K hK => ?_) AllReadyH.nil
              clear hHeld
              go_simp
              refine hK.out _ _ trivial (fun hHeld => ?_)
              have hT29 : TabAt ((W28).alloc (.cells #[.string ⟨#[]⟩, .string ⟨#[73]⟩] 9)) W28.heap.size kk := tab_new (W28) kk hkk0 hkk1
              have hB29 := hB28.alloc hB28.size (.cells #[.string ⟨#[]⟩, .string ⟨#[73]⟩] 9)
              clear hK K hB28
              try go_frame
              refine wpAnyH_and (T := fun W => W.cell? ⟨W28.heap.size, kk.toNat, none⟩ = some (.string (oddT kk))) _ _ _ _ ?_
              replace hHeld := And.intro hHeld hT29.2
              refine wpAnyH_take (i := 21) (oi := _) (v := ?_) (by simp only [List.getElem?_toArray, List.getElem?_cons_succ, List.getElem?_cons_zero]; rfl) (by kernel_rfl) (by kernel_rfl) (by kernel_rfl) (by intro _ _ _ h; exact h) (Or.inl ⟨by rfl, fun W hSw => ?_⟩) hHeld ?_
              rotate_left 1
              · (clear hSw; first | (go_simp; done) | (go_simp; with_reducible rfl))
              try go_frame
              refine wpAnyH_take (i := 22) (oi := _) (v := ?_) (by simp only [List.getElem?_toArray, List.getElem?_cons_succ, List.getElem?_cons_zero]; rfl) (by kernel_rfl) (by kernel_rfl) (by kernel_rfl) (by intro _ _ _ h; exact h) (Or.inl ⟨by rfl, fun W hSw => ?_⟩) hHeld ?_
              rotate_left 1
              · (have hT := hSw.2; clear hSw; first | (go_simp; done) | (go_simp; with_reducible rfl))
              try go_frame
              refine wpAnyH_take (i := 23) (oi := _) (v := ?_) (by simp only [List.getElem?_toArray, List.getElem?_cons_succ, List.getElem?_cons_zero]; rfl) (by kernel_rfl) (by kernel_rfl) (by kernel_rfl) (by intro _ _ _ h; exact h) (Or.inl ⟨by rfl, fun W hSw => ?_⟩) hHeld ?_
              rotate_left 1
              · (clear hSw; first | (go_simp; done) | (go_simp; with_reducible rfl))
              try go_frame
              refine wpAnyH_take (i := 24) (oi := _) (v := ?_) (by simp only [List.getElem?_toArray, List.getElem?_cons_succ, List.getElem?_cons_zero]; rfl) (by kernel_rfl) (by kernel_rfl) (by kernel_rfl) (by intro _ _ _ h; exact h) (Or.inl ⟨by rfl, fun W hSw => ?_⟩) hHeld ?_
              rotate_left 1
              · (clear hSw; first | (go_simp; done) | (go_simp; with_reducible rfl))
              try go_frame
              refine wpAnyH_ready (rs := [25]) (by kernel_rfl) (by simp) ?_
              refine AllReadyH.cons (o := _) (by simp only [List.getElem?_toArray, List.getElem?_cons_succ, List.getElem?_cons_zero]; rfl) (fun K hK => ?_) AllReadyH.nil
              clear hHeld
              go_simp
              have hFive := five_cells ((W28).alloc (.cells #[.string ⟨#[]⟩, .string ⟨#[73]⟩] 9)) s zs kk
              rw [← five_kk s zs HKK.out] at hFive
              rw [show ((W28).alloc (.cells #[.string ⟨#[]⟩, .string ⟨#[73]⟩] 9)).heap.size = (W28).heap.size + 1 from by simp] at hFive
              have hBf := hB29.alloc hB29.size (.cells #[.string s, .string (bx (someL zs)), .string ((⟨#[40]⟩ ++ bx (someL zs)) ++ ⟨#[41, 86]⟩), .string (((⟨#[40]⟩ ++ bx (someL zs)) ++ ⟨#[41]⟩) ++ bx (someL (zs.take (zs.length / 2)))), .string ((⟨#[40, 73, 73, 73, 73, 73, 73, 73, 73]⟩ ++ oddT kk) ++ ⟨#[41, 83]⟩)] 9)
              refine hK.out _ _ ⟨trivial, (hT29.alloc _).2⟩ (fun hHeld => ?_)
              clear hK K hT29
              try go_frame
              refine wpAnyH_take (i := 26) (oi := _) (v := ?_) (by simp only [List.getElem?_toArray, List.getElem?_cons_succ, List.getElem?_cons_zero]; rfl) (by kernel_rfl) (by kernel_rfl) (by kernel_rfl) (by intro _ _ _ h; exact h) (Or.inl ⟨by rfl, fun W hSw => ?_⟩) hHeld ?_
              rotate_left 1
              · (clear hSw; first | (go_simp; done) | (go_simp; with_reducible rfl))
              try go_frame
              refine wpAnyH_done (by kernel_rfl) ?_ _
              go_wp2_with fail
              go_meet
              case rel => exact ⟨_, rfl, rfl, rfl, hFive, hBf⟩
            refine AllReadyH.cons (o := _) (by simp only [List.getElem?_toArray, List.getElem?_cons_succ, List.getElem?_cons_zero]; rfl) (fun K hK => ?_) AllReadyH.nil
            clear hHeld
            go_simp
            refine hK.out _ _ trivial (fun hHeld => ?_)
            have hT31 : TabAt ((W27).alloc (.cells #[.string ⟨#[]⟩, .string ⟨#[73]⟩] 9)) W27.heap.size kk := tab_new (W27) kk hkk0 hkk1
            have hB31 := hB27.alloc hB27.size (.cells #[.string ⟨#[]⟩, .string ⟨#[73]⟩] 9)
            clear hK K hB27
            try go_frame
            refine wpAnyH_and (T := fun W => W.cell? ⟨W27.heap.size, kk.toNat, none⟩ = some (.string (oddT kk))) _ _ _ _ ?_
            replace hHeld := And.intro hHeld hT31.2
            refine wpAnyH_take (i := 21) (oi := _) (v := ?_) (by simp only [List.getElem?_toArray, List.getElem?_cons_succ, List.getElem?_cons_zero]; rfl) (by kernel_rfl) (by kernel_rfl) (by kernel_rfl) (by intro _ _ _ h; exact h) (Or.inl ⟨by rfl, fun W hSw => ?_⟩) hHeld ?_
            rotate_left 1
            · (clear hSw; first | (go_simp; done) | (go_simp; with_reducible rfl))
            try go_frame
            refine wpAnyH_take (i := 22) (oi := _) (v := ?_) (by simp only [List.getElem?_toArray, List.getElem?_cons_succ, List.getElem?_cons_zero]; rfl) (by kernel_rfl) (by kernel_rfl) (by kernel_rfl) (by intro _ _ _ h; exact h) (Or.inl ⟨by rfl, fun W hSw => ?_⟩) hHeld ?_
            rotate_left 1
            · (have hT := hSw.2; clear hSw; first | (go_simp; done) | (go_simp; with_reducible rfl))
            try go_frame
            refine wpAnyH_take (i := 23) (oi := _) (v := ?_) (by simp only [List.getElem?_toArray, List.getElem?_cons_succ, List.getElem?_cons_zero]; rfl) (by kernel_rfl) (by kernel_rfl) (by kernel_rfl) (by intro _ _ _ h; exact h) (Or.inl ⟨by rfl, fun W hSw => ?_⟩) hHeld ?_
            rotate_left 1
            · (clear hSw; first | (go_simp; done) | (go_simp; with_reducible rfl))
            try go_frame
            refine wpAnyH_take (i := 24) (oi := _) (v := ?_) (by simp only [List.getElem?_toArray, List.getElem?_cons_succ, List.getElem?_cons_zero]; rfl) (by kernel_rfl) (by kernel_rfl) (by kernel_rfl) (by intro _ _ _ h; exact h) (Or.inl ⟨by rfl, fun W hSw => ?_⟩) hHeld ?_
            rotate_left 1
            · (clear hSw; first | (go_simp; done) | (go_simp; with_reducible rfl))
            try go_frame
            refine wpAnyH_ready (rs := [16]) (by kernel_rfl) (by simp) ?_
            refine AllReadyH.cons (o := _) (by simp only [List.getElem?_toArray, List.getElem?_cons_succ, List.getElem?_cons_zero]; rfl) (fun K hK => ?_) AllReadyH.nil
            clear hHeld
            go_simp
            refine (some_any (.slice (some ad) (zs.length / 2) cap) (zs.take (zs.length / 2)) _ ((HI.out.take (zs.length / 2) (by omega)).below hB31 (Nat.le_refl _)) (by rw [List.length_take]; omega)).mono ?_
            rintro e W32 ⟨rfl, f32⟩
            have hB32 := hB31.trans (f32.mono hB31.size)
            have hT32 := hT31.next f32
            refine hK.out _ _ ⟨trivial, hT32.2⟩ (fun hHeld => ?_)
            clear hK K f32 hB31 hT31
            try go_frame
            refine wpAnyH_take (i := 17) (oi := _) (v := ?_) (by simp only [List.getElem?_toArray, List.getElem?_cons_succ, List.getElem?_cons_zero]; rfl) (by kernel_rfl) (by kernel_rfl) (by kernel_rfl) (by intro _ _ _ h; exact h) (Or.inl ⟨by rfl, fun W hSw => ?_⟩) hHeld ?_
            rotate_left 1
            · (clear hSw; first | (go_simp; done) | (go_simp; with_reducible rfl))
            try go_frame
            refine wpAnyH_ready (rs := [25]) (by kernel_rfl) (by simp) ?_
            refine AllReadyH.cons (o := _) (by simp only [List.getElem?_toArray, List.getElem?_cons_succ, List.getElem?_cons_zero]; rfl) (fun K hK => ?_) AllReadyH.nil
            clear hHeld
            go_simp
            have hFive := five_cells (W32) s zs kk
            rw [← five_kk s zs HKK.out] at hFive
            have hBf := hB32.alloc hB32.size (.cells #[.string s, .string (bx (someL zs)), .string ((⟨#[40]⟩ ++ bx (someL zs)) ++ ⟨#[41, 86]⟩), .string (((⟨#[40]⟩ ++ bx (someL zs)) ++ ⟨#[41]⟩) ++ bx (someL (zs.take (zs.length / 2)))), .string ((⟨#[40, 73, 73, 73, 73, 73, 73, 73, 73]⟩ ++ oddT kk) ++ ⟨#[41, 83]⟩)] 9)
            refine hK.out _ _ ⟨trivial, (hT32.alloc _).2⟩ (fun hHeld => ?_)
            clear hK K hT32
            try go_frame
            refine wpAnyH_take (i := 26) (oi := _) (v := ?_) (by simp only [List.getElem?_toArray, List.getElem?_cons_succ, List.getElem?_cons_zero]; rfl) (by kernel_rfl) (by kernel_rfl) (by kernel_rfl) (by intro _ _ _ h; exact h) (Or.inl ⟨by rfl, fun W hSw => ?_⟩) hHeld ?_
            rotate_left 1
            · (clear hSw; first | (go_simp; done) | (go_simp; with_reducible rfl))
            try go_frame
            refine wpAnyH_done (by kernel_rfl) ?_ _
            go_wp2_with fail
            go_meet
            case rel => exact ⟨_, rfl, rfl, rfl, hFive, hBf⟩
          refine AllReadyH.cons (o := _) (by simp only [List.getElem?_toArray, List.getElem?_cons_succ, List.getElem?_cons_zero]; rfl) (fun K hK => ?_) AllReadyH.nil
          clear hHeld
          go_simp
          refine hK.out _ _ trivial (fun hHeld => ?_)
          have hT34 : TabAt ((W26).alloc (.cells #[.string ⟨#[]⟩, .string ⟨#[73]⟩] 9)) W26.heap.size kk := tab_new (W26) kk hkk0 hkk1
          have hB34 := hB26.alloc hB26.size (.cells #[.string ⟨#[]⟩, .string ⟨#[73]⟩] 9)
          clear hK K hB26
          try go_frame
          refine wpAnyH_and (T := fun W => W.cell? ⟨W26.heap.size, kk.toNat, none⟩ = some (.string (oddT kk))) _ _ _ _ ?_
          replace hHeld := And.intro hHeld hT34.2
          refine wpAnyH_take (i := 21) (oi := _) (v := ?_) (by simp only [List.getElem?_toArray, List.getElem?_cons_succ, List.getElem?_cons_zero]; rfl) (by kernel_rfl) (by kernel_rfl) (by kernel_rfl) (by intro _ _ _ h; exact h) (Or.inl ⟨by rfl, fun W hSw => ?_⟩) hHeld ?_
          rotate_left 1
          · (clear hSw; first | (go_simp; done) | (go_simp; with_reducible rfl))
          try go_frame
          refine wpAnyH_take (i := 22) (oi := _) (v := ?_) (by simp only [List.getElem?_toArray, List.getElem?_cons_succ, List.getElem?_cons_zero]; rfl) (by kernel_rfl) (by kernel_rfl) (by kernel_rfl) (by intro _ _ _ h; exact h) (Or.inl ⟨by rfl, fun W hSw => ?_⟩) hHeld ?_
          rotate_left 1
          · (have hT := hSw.2; clear hSw; first | (go_simp; done) | (go_simp; with_reducible rfl))
          try go_frame
          refine wpAnyH_take (i := 23) (oi := _) (v := ?_) (by simp only [List.getElem?_toArray, List.getElem?_cons_succ, List.getElem?_cons_zero]; rfl) (by kernel_rfl) (by kernel_rfl) (by kernel_rfl) (by intro _ _ _ h; exact h) (Or.inl ⟨by rfl, fun W hSw => ?_⟩) hHeld ?_
          rotate_left 1
          · (clear hSw; first | (go_simp; done) | (go_simp; with_reducible rfl))
          try go_frame
          refine wpAnyH_take (i := 24) (oi := _) (v := ?_) (by simp only [List.getElem?_toArray, List.getElem?_cons_succ, List.getElem?_cons_zero]; rfl) (by kernel_rfl) (by kernel_rfl) (by kernel_rfl) (by intro _ _ _ h; exact h) (Or.inl ⟨by rfl, fun W hSw => ?_⟩) hHeld ?_
          rotate_left 1
          · (clear hSw; first | (go_simp; done) | (go_simp; with_reducible rfl))
          try go_frame
          refine wpAnyH_ready (rs := [8]) (by kernel_rfl) (by simp) ?_
          refine AllReadyH.cons (o := _) (by simp only [List.getElem?_toArray, List.getElem?_cons_succ, List.getElem?_cons_zero]; rfl) (fun K hK => ?_) AllReadyH.nil
          clear hHeld
          go_simp
          refine (some_any (.slice (some ad) zs.length cap) zs _ (HI.out.below hB34 (Nat.le_refl _)) h14').mono ?_
          rintro e W35 ⟨rfl, f35⟩
          have hB35 := hB34.trans (f35.mono hB34.size)
          have hT35 := hT34.next f35
          refine hK.out _ _ ⟨trivial, hT35.2⟩ (fun hHeld => ?_)
          clear hK K f35 hB34 hT34
          try go_frame
          refine wpAnyH_take (i := 9) (oi := _) (v := ?_) (by simp only [List.getElem?_toArray, List.getElem?_cons_succ, List.getElem?_cons_zero]; rfl) (by kernel_rfl) (by kernel_rfl) (by kernel_rfl) (by intro _ _ _ h; exact h) (Or.inl ⟨by rfl, fun W hSw => ?_⟩) hHeld ?_
          rotate_left 1
          · (clear hSw; first | (go_simp; done) | (go_simp; with_reducible rfl))
          try go_frame
          refine wpAnyH_take (i := 10) (oi := _) (v := ?_) (by simp only [List.getElem?_toArray, List.getElem?_cons_succ, List.getElem?_cons_zero]; rfl) (by kernel_rfl) (by kernel_rfl) (by kernel_rfl) (by intro _ _ _ h; exact h) (Or.inl ⟨by rfl, fun W hSw => ?_⟩) hHeld ?_
          rotate_left 1
          · (clear hSw; first | (go_simp; done) | (go_simp; with_reducible rfl))
          try go_frame
          refine wpAnyH_ready (rs := [16]) (by kernel_rfl) (by simp) ?_
          refine AllReadyH.cons (o := _) (by simp only [List.getElem?_toArray, List.getElem?_cons_succ, List.getElem?_cons_zero]; rfl) (fun K hK => ?_) AllReadyH.nil
          clear hHeld
          go_simp
          refine (some_any (.slice (some ad) (zs.length / 2) cap) (zs.take (zs.length / 2)) _ ((HI.out.take (zs.length / 2) (by omega)).below hB35 (Nat.le_refl _)) (by rw [List.length_take]; omega)).mono ?_
          rintro e W36 ⟨rfl, f36⟩
          have hB36 := hB35.trans (f36.mono hB35.size)
          have hT36 := hT35.next f36
          refine hK.out _ _ ⟨trivial, hT36.2⟩ (fun hHeld => ?_)
          clear hK K f36 hB35 hT35
          try go_frame
          refine wpAnyH_take (i := 17) (oi := _) (v := ?_) (by simp only [List.getElem?_toArray, List.getElem?_cons_succ, List.getElem?_cons_zero]; rfl) (by kernel_rfl) (by kernel_rfl) (by kernel_rfl) (by intro _ _ _ h; exact h) (Or.inl ⟨by rfl, fun W hSw => ?_⟩) hHeld ?_
          rotate_left 1
          · (clear hSw; first | (go_simp; done) | (go_simp; with_reducible rfl))
          try go_frame
          refine wpAnyH_ready (rs := [25]) (by kernel_rfl) (by simp) ?_
          refine AllReadyH.cons (o := _) (by simp only [List.getElem?_toArray, List.getElem?_cons_succ, List.getElem?_cons_zero]; rfl) (fun K hK => ?_) AllReadyH.nil
          clear hHeld
          go_simp
          have hFive := five_cells (W36) s zs kk
          rw [← five_kk s zs HKK.out] at hFive
          have hBf := hB36.alloc hB36.size (.cells #[.string s, .string (bx (someL zs)), .string ((⟨#[40]⟩ ++ bx (someL zs)) ++ ⟨#[41, 86]⟩), .string (((⟨#[40]⟩ ++ bx (someL zs)) ++ ⟨#[41]⟩) ++ bx (someL (zs.take (zs.length / 2)))), .string ((⟨#[40, 73, 73, 73, 73, 73, 73, 73, 73]⟩ ++ oddT kk) ++ ⟨#[41, 83]⟩)] 9)
          refine hK.out _ _ ⟨trivial, (hT36.alloc _).2⟩ (fun hHeld => ?_)
          clear hK K hT36
          try go_frame
          refine wpAnyH_take (i := 26) (oi := _) (v := ?_) (by simp only [List.getElem?_toArray, List.getElem?_cons_succ, List.getElem?_cons_zero]; rfl) (by kernel_rfl) (by kernel_rfl) (by kernel_rfl) (by intro _ _ _ h; exact h) (Or.inl ⟨by rfl, fun W hSw => ?_⟩) hHeld ?_
          rotate_left 1
          · (clear hSw; first | (go_simp; done) | (go_simp; with_reducible rfl))
          try go_frame
          refine wpAnyH_done (by kernel_rfl) ?_ _
          go_wp2_with fail
          go_meet
          case rel => exact ⟨_, rfl, rfl, rfl, hFive, hBf⟩
        refine AllReadyH.cons (o := _) (by simp only [List.getElem?_toArray, List.getElem?_cons_succ, List.getElem?_cons_zero]; rfl) (fun K hK => ?_) AllReadyH.nil
        clear hHeld
        go_simp
        refine hK.out _ _ trivial (fun hHeld => ?_)
        have hT38 : TabAt ((W25).alloc (.cells #[.string ⟨#[]⟩, .string ⟨#[73]⟩] 9)) W25.heap.size kk := tab_new (W25) kk hkk0 hkk1
        have hB38 := hB25.alloc hB25.size (.cells #[.string ⟨#[]⟩, .string ⟨#[73]⟩] 9)
        clear hK K hB25
        try go_frame
        refine wpAnyH_and (T := fun W => W.cell? ⟨W25.heap.size, kk.toNat, none⟩ = some (.string (oddT kk))) _ _ _ _ ?_
        replace hHeld := And.intro hHeld hT38.2
        refine wpAnyH_take (i := 21) (oi := _) (v := ?_) (by simp only [List.getElem?_toArray, List.getElem?_cons_succ, List.getElem?_cons_zero]; rfl) (by kernel_rfl) (by kernel_rfl) (by kernel_rfl) (by intro _ _ _ h; exact h) (Or.inl ⟨by rfl, fun W hSw => ?_⟩) hHeld ?_
        rotate_left 1
        · (clear hSw; first | (go_simp; done) | (go_simp; with_reducible rfl))
        try go_frame
        refine wpAnyH_take (i := 22) (oi := _) (v := ?_) (by simp only [List.getElem?_toArray, List.getElem?_cons_succ, List.getElem?_cons_zero]; rfl) (by kernel_rfl) (by kernel_rfl) (by kernel_rfl) (by intro _ _ _ h; exact h) (Or.inl ⟨by rfl, fun W hSw => ?_⟩) hHeld ?_
        rotate_left 1
        · (have hT := hSw.2; clear hSw; first | (go_simp; done) | (go_simp; with_reducible rfl))
        try go_frame
        refine wpAnyH_take (i := 23) (oi := _) (v := ?_) (by simp only [List.getElem?_toArray, List.getElem?_cons_succ, List.getElem?_cons_zero]; rfl) (by kernel_rfl) (by kernel_rfl) (by kernel_rfl) (by intro _ _ _ h; exact h) (Or.inl ⟨by rfl, fun W hSw => ?_⟩) hHeld ?_
        rotate_left 1
        · (clear hSw; first | (go_simp; done) | (go_simp; with_reducible rfl))
        try go_frame
        refine wpAnyH_take (i := 24) (oi := _) (v := ?_) (by simp only [List.getElem?_toArray, List.getElem?_cons_succ, List.getElem?_cons_zero]; rfl) (by kernel_rfl) (by kernel_rfl) (by kernel_rfl) (by intro _ _ _ h; exact h) (Or.inl ⟨by rfl, fun W hSw => ?_⟩) hHeld ?_
        rotate_left 1
        · (clear hSw; first | (go_simp; done) | (go_simp; with_reducible rfl))
        try go_frame
        refine wpAnyH_ready (rs := [4]) (by kernel_rfl) (by simp) ?_
        refine AllReadyH.cons (o := _) (by simp only [List.getElem?_toArray, List.getElem?_cons_succ, List.getElem?_cons_zero]; rfl) (fun K hK => ?_) AllReadyH.nil
        clear hHeld
        go_simp
        refine (some_any (.slice (some ad) zs.length cap) zs _ (HI.out.below hB38 (Nat.le_refl _)) h14').mono ?_
        rintro e W39 ⟨rfl, f39⟩
        have hB39 := hB38.trans (f39.mono hB38.size)
        have hT39 := hT38.next f39
        refine hK.out _ _ ⟨trivial, hT39.2⟩ (fun hHeld => ?_)
        clear hK K f39 hB38 hT38
        try go_frame
        refine wpAnyH_take (i := 5) (oi := _) (v := ?_) (by simp only [List.getElem?_toArray, List.getElem?_cons_succ, List.getElem?_cons_zero]; rfl) (by kernel_rfl) (by kernel_rfl) (by kernel_rfl) (by intro _ _ _ h; exact h) (Or.inl ⟨by rfl, fun W hSw => ?_⟩) hHeld ?_
        rotate_left 1
        · (clear hSw; first | (go_simp; done) | (go_simp; with_reducible rfl))
        try go_frame
        refine wpAnyH_take (i := 6) (oi := _) (v := ?_) (by simp only [List.getElem?_toArray, List.getElem?_cons_succ, List.getElem?_cons_zero]; rfl) (by kernel_rfl) (by kernel_rfl) (by kernel_rfl) (by intro _ _ _ h; exact h) (Or.inl ⟨by rfl, fun W hSw => ?_⟩) hHeld ?_
        rotate_left 1
        · (clear hSw; first | (go_simp; done) | (go_simp; with_reducible rfl))
        try go_frame
        refine wpAnyH_ready (rs := [8]) (by kernel_rfl) (by simp) ?_
        refine AllReadyH.cons (o := _) (by simp only [List.getElem?_toArray, List.getElem?_cons_succ, List.getElem?_cons_zero]; rfl) (fun K hK => ?_) AllReadyH.nil
        clear hHeld
        go_simp
        refine (some_any (.slice (some ad) zs.length cap) zs _ (HI.out.below hB39 (Nat.le_refl _)) h14').mono ?_
        rintro e W40 ⟨rfl, f40⟩
        have hB40 := hB39.trans (f40.mono hB39.size)
        have hT40 := hT39.next f40
        refine hK.out _ _ ⟨trivial, hT40.2⟩ (fun hHeld => ?_)
        clear hK K f40 hB39 hT39
        try go_frame
        refine wpAnyH_take (i := 9) (oi := _) (v := ?_) (by simp only [List.getElem?_toArray, List.getElem?_cons_succ, List.getElem?_cons_zero]; rfl) (by kernel_rfl) (by kernel_rfl) (by kernel_rfl) (by intro _ _ _ h; exact h) (Or.inl ⟨by rfl, fun W hSw => ?_⟩) hHeld ?_
        rotate_left 1
        · (clear hSw; first | (go_simp; done) | (go_simp; with_reducible rfl))
        try go_frame
        refine wpAnyH_take (i := 10) (oi := _) (v := ?_) (by simp only [List.getElem?_toArray, List.getElem?_cons_succ, List.getElem?_cons_zero]; rfl) (by kernel_rfl) (by kernel_rfl) (by kernel_rfl) (by intro _ _ _ h; exact h) (Or.inl ⟨by rfl, fun W hSw => ?_⟩) hHeld ?_
        rotate_left 1
        · (clear hSw; first | (go_simp; done) | (go_simp; with_reducible rfl))
        try go_frame
        refine wpAnyH_ready (rs := [16]) (by kernel_rfl) (by simp) ?_
        refine AllReadyH.cons (o := _) (by simp only [List.getElem?_toArray, List.getElem?_cons_succ, List.getElem?_cons_zero]; rfl) (fun K hK => ?_) AllReadyH.nil
        clear hHeld
        go_simp
        refine (some_any (.slice (some ad) (zs.length / 2) cap) (zs.take (zs.length / 2)) _ ((HI.out.take (zs.length / 2) (by omega)).below hB40 (Nat.le_refl _)) (by rw [List.length_take]; omega)).mono ?_
        rintro e W41 ⟨rfl, f41⟩
        have hB41 := hB40.trans (f41.mono hB40.size)
        have hT41 := hT40.next f41
        refine hK.out _ _ ⟨trivial, hT41.2⟩ (fun hHeld => ?_)
        clear hK K f41 hB40 hT40
        try go_frame
        refine wpAnyH_take (i := 17) (oi := _) (v := ?_) (by simp only [List.getElem?_toArray, List.getElem?_cons_succ, List.getElem?_cons_zero]; rfl) (by kernel_rfl) (by kernel_rfl) (by kernel_rfl) (by intro _ _ _ h; exact h) (Or.inl ⟨by rfl, fun W hSw => ?_⟩) hHeld ?_
        rotate_left 1
        · (clear hSw; first | (go_simp; done) | (go_simp; with_reducible rfl))
        try go_frame
        refine wpAnyH_ready (rs := [25]) (by kernel_rfl) (by simp) ?_
        refine AllReadyH.cons (o := _) (by simp only [List.getElem?_toArray, List.getElem?_cons_succ, List.getElem?_cons_zero]; rfl) (fun K hK => ?_) AllReadyH.nil
        clear hHeld
        go_simp
        have hFive := five_cells (W41) s zs kk
        rw [← five_kk s zs HKK.out] at hFive
        have hBf := hB41.alloc hB41.size (.cells #[.string s, .string (bx (someL zs)), .string ((⟨#[40]⟩ ++ bx (someL zs)) ++ ⟨#[41, 86]⟩), .string (((⟨#[40]⟩ ++ bx (someL zs)) ++ ⟨#[41]⟩) ++ bx (someL (zs.take (zs.length / 2)))), .string ((⟨#[40, 73, 73, 73, 73, 73, 73, 73, 73]⟩ ++ oddT kk) ++ ⟨#[41, 83]⟩)] 9)
        refine hK.out _ _ ⟨trivial, (hT41.alloc _).2⟩ (fun hHeld => ?_)
        clear hK K hT41
        try go_frame
        refine wpAnyH_take (i := 26) (oi := _) (v := ?_) (by simp only [List.getElem?_toArray, List.getElem?_cons_succ, List.getElem?_cons_zero]; rfl) (by kernel_rfl) (by kernel_rfl) (by kernel_rfl) (by intro _ _ _ h; exact h) (Or.inl ⟨by rfl, fun W hSw => ?_⟩) hHeld ?_
        rotate_left 1
        · (clear hSw; first | (go_simp; done) | (go_simp; with_reducible rfl))
        try go_frame
        refine wpAnyH_done (by kernel_rfl) ?_ _
        go_wp2_with fail
        go_meet
        case rel => exact ⟨_, rfl, rfl, rfl, hFive, hBf⟩
      refine AllReadyH.cons (o := _) (by simp only [List.getElem?_toArray, List.getElem?_cons_succ, List.getElem?_cons_zero]; rfl) (fun K hK => ?_) AllReadyH.nil
      clear hHeld
      go_simp
      refine hK.out _ _ trivial (fun hHeld => ?_)
      have hT43 : TabAt ((w1.drew).alloc (.cells #[.string ⟨#[]⟩, .string ⟨#[73]⟩] 9)) w1.heap.size kk := tab_new (w1.drew) kk hkk0 hkk1
      have hB43 := hBd.alloc hBd.size (.cells #[.string ⟨#[]⟩, .string ⟨#[73]⟩] 9)
      clear hK K 
      try go_frame
      refine wpAnyH_and (T := fun W => W.cell? ⟨w1.heap.size, kk.toNat, none⟩ = some (.string (oddT kk))) _ _ _ _ ?_
      replace hHeld := And.intro hHeld hT43.2
      refine wpAnyH_take (i := 21) (oi := _) (v := ?_) (by simp only [List.getElem?_toArray, List.getElem?_cons_succ, List.getElem?_cons_zero]; rfl) (by kernel_rfl) (by kernel_rfl) (by kernel_rfl) (by intro _ _ _ h; exact h) (Or.inl ⟨by rfl, fun W hSw => ?_⟩) hHeld ?_
      rotate_left 1
      · (clear hSw; first | (go_simp; done) | (go_simp; with_reducible rfl))
      try go_frame
      refine wpAnyH_take (i := 22) (oi := _) (v := ?_) (by simp only [List.getElem?_toArray, List.getElem?_cons_succ, List.getElem?_cons_zero]; rfl) (by kernel_rfl) (by kernel_rfl) (by kernel_rfl) (by intro _ _ _ h; exact h) (Or.inl ⟨by rfl, fun W hSw => ?_⟩) hHeld ?_
      rotate_left 1
      · (have hT := hSw.2; clear hSw; first | (go_simp; done) | (go_simp; with_reducible rfl))
      try go_frame
      refine wpAnyH_take (i := 23) (oi := _) (v := ?_) (by simp only [List.getElem?_toArray, List.getElem?_cons_succ, List.getElem?_cons_zero]; rfl) (by kernel_rfl) (by kernel_rfl) (by kernel_rfl) (by intro _ _ _ h; exact h) (Or.inl ⟨by rfl, fun W hSw => ?_⟩) hHeld ?_
      rotate_left 1
      · (clear hSw; first | (go_simp; done) | (go_simp; with_reducible rfl))
      try go_frame
      refine wpAnyH_take (i := 24) (oi := _) (v := ?_) (by simp only [List.getElem?_toArray, List.getElem?_cons_succ, List.getElem?_cons_zero]; rfl) (by kernel_rfl) (by kernel_rfl) (by kernel_rfl) (by intro _ _ _ h; exact h) (Or.inl ⟨by rfl, fun W hSw => ?_⟩) hHeld ?_
      rotate_left 1
      · (clear hSw; first | (go_simp; done) | (go_simp; with_reducible rfl))
      try go_frame
      refine wpAnyH_ready (rs := [2]) (by kernel_rfl) (by simp) ?_
      refine AllReadyH.cons (o := _) (by simp only [List.getElem?_toArray, List.getElem?_cons_succ, List.getElem?_cons_zero]; rfl) (fun K hK => ?_) AllReadyH.nil
      clear hHeld
      go_simp
      refine (some_any (.slice (some ad) zs.length cap) zs _ (HI.out.below hB43 (Nat.le_refl _)) h14').mono ?_
      rintro e W44 ⟨rfl, f44⟩
      have hB44 := hB43.trans (f44.mono hB43.size)
      have hT44 := hT43.next f44
      refine hK.out _ _ ⟨trivial, hT44.2⟩ (fun hHeld => ?_)
      clear hK K f44 hB43 hT43
      try go_frame
      refine wpAnyH_ready (rs := [4]) (by kernel_rfl) (by simp) ?_
      refine AllReadyH.cons (o := _) (by simp only [List.getElem?_toArray, List.getElem?_cons_succ, List.getElem?_cons_zero]; rfl) (fun K hK => ?_) AllReadyH.nil
      clear hHeld
      go_simp
      refine (some_any (.slice (some ad) zs.length cap) zs _ (HI.out.below hB44 (Nat.le_refl _)) h14').mono ?_
      rintro e W45 ⟨rfl, f45⟩
      have hB45 := hB44.trans (f45.mono hB44.size)
      have hT45 := hT44.next f45
      refine hK.out _ _ ⟨trivial, hT45.2⟩ (fun hHeld => ?_)
      clear hK K f45 hB44 hT44
      try go_frame
      refine wpAnyH_take (i := 5) (oi := _) (v := ?_) (by simp only [List.getElem?_toArray, List.getElem?_cons_succ, List.getElem?_cons_zero]; rfl) (by kernel_rfl) (by kernel_rfl) (by kernel_rfl) (by intro _ _ _ h; exact h) (Or.inl ⟨by rfl, fun W hSw => ?_⟩) hHeld ?_
      rotate_left 1
      · (clear hSw; first | (go_simp; done) | (go_simp; with_reducible rfl))
      try go_frame
      refine wpAnyH_take (i := 6) (oi := _) (v := ?_) (by simp only [List.getElem?_toArray, List.getElem?_cons_succ, List.getElem?_cons_zero]; rfl) (by kernel_rfl) (by kernel_rfl) (by kernel_rfl) (by intro _ _ _ h; exact h) (Or.inl ⟨by rfl, fun W hSw => ?_⟩) hHeld ?_
      rotate_left 1
      · (clear hSw; first | (go_simp; done) | (go_simp; with_reducible rfl))
      try go_frame
      refine wpAnyH_ready (rs := [8]) (by kernel_rfl) (by simp) ?_
      refine AllReadyH.cons (o := _) (by simp only [List.getElem?_toArray, List.getElem?_cons_succ, List.getElem?_cons_zero]; rfl) (fun K hK => ?_) AllReadyH.nil
      clear hHeld
      go_simp
      refine (some_any (.slice (some ad) zs.length cap) zs _ (HI.out.below hB45 (Nat.le_refl _)) h14').mono ?_
      rintro e W46 ⟨rfl, f46⟩
      have hB46 := hB45.trans (f46.mono hB45.size)
      have hT46 := hT45.next f46
      refine hK.out _ _ ⟨trivial, hT46.2⟩ (fun hHeld => ?_)
      clear hK K f46 hB45 hT45
      try go_frame
      refine wpAnyH_take (i := 9) (oi := _) (v := ?_) (by simp only [List.getElem?_toArray, List.getElem?_cons_succ, List.getElem?_cons_zero]; rfl) (by kernel_rfl) (by kernel_rfl) (by kernel_rfl) (by intro _ _ _ h; exact h) (Or.inl ⟨by rfl, fun W hSw => ?_⟩) hHeld ?_
      rotate_left 1
      · (clear hSw; first | (go_simp; done) | (go_simp; with_reducible rfl))
      try go_frame
      refine wpAnyH_take (i := 10) (oi := _) (v := ?_) (by simp only [List.getElem?_toArray, List.getElem?_cons_succ, List.getElem?_cons_zero]; rfl) (by kernel_rfl) (by kernel_rfl) (by kernel_rfl) (by intro _ _ _ h; exact h) (Or.inl ⟨by rfl, fun W hSw => ?_⟩) hHeld ?_
      rotate_left 1
      · (clear hSw; first | (go_simp; done) | (go_simp; with_reducible rfl))
      try go_frame
      refine wpAnyH_ready (rs := [16]) (by kernel_rfl) (by simp) ?_
      refine AllReadyH.cons (o := _) (by simp only [List.getElem?_toArray, List.getElem?_cons_succ, List.getElem?_cons_zero]; rfl) (fun K hK => ?_) AllReadyH.nil
      clear hHeld
      go_simp
      refine (some_any (.slice (some ad) (zs.length / 2) cap) (zs.take (zs.length / 2)) _ ((HI.out.take (zs.length / 2) (by omega)).below hB46 (Nat.le_refl _)) (by rw [List.length_take]; omega)).mono ?_
      rintro e W47 ⟨rfl, f47⟩
      have hB47 := hB46.trans (f47.mono hB46.size)
      have hT47 := hT46.next f47
      refine hK.out _ _ ⟨trivial, hT47.2⟩ (fun hHeld => ?_)
      clear hK K f47 hB46 hT46
      try go_frame
      refine wpAnyH_take (i := 17) (oi := _) (v := ?_) (by simp only [List.getElem?_toArray, List.getElem?_cons_succ, List.getElem?_cons_zero]; rfl) (by kernel_rfl) (by kernel_rfl) (by kernel_rfl) (by intro _ _ _ h; exact h) (Or.inl ⟨by rfl, fun W hSw => ?_⟩) hHeld ?_
      rotate_left 1
      · (clear hSw; first | (go_simp; done) | (go_simp; with_reducible rfl))
      try go_frame
      refine wpAnyH_ready (rs := [25]) (by kernel_rfl) (by simp) ?_
      refine AllReadyH.cons (o := _) (by simp only [List.getElem?_toArray, List.getElem?_cons_succ, List.getElem?_cons_zero]; rfl) (fun K hK => ?_) AllReadyH.nil
      clear hHeld
      go_simp
      have hFive := five_cells (W47) s zs kk
      rw [← five_kk s zs HKK.out] at hFive
      have hBf := hB47.alloc hB47.size (.cells #[.string s, .string (bx (someL zs)), .string ((⟨#[40]⟩ ++ bx (someL zs)) ++ ⟨#[41, 86]⟩), .string (((⟨#[40]⟩ ++ bx (someL zs)) ++ ⟨#[41]⟩) ++ bx (someL (zs.take (zs.length / 2)))), .string ((⟨#[40, 73, 73, 73, 73, 73, 73, 73, 73]⟩ ++ oddT kk) ++ ⟨#[41, 83]⟩)] 9)
      refine hK.out _ _ ⟨trivial, (hT47.alloc _).2⟩ (fun hHeld => ?_)
      clear hK K hT47
      try go_frame
      refine wpAnyH_take (i := 26) (oi := _) (v := ?_) (by simp only [List.getElem?_toArray, List.getElem?_cons_succ, List.getElem?_cons_zero]; rfl) (by kernel_rfl) (by kernel_rfl) (by kernel_rfl) (by intro _ _ _ h; exact h) (Or.inl ⟨by rfl, fun W hSw => ?_⟩) hHeld ?_
      rotate_left 1
      · (clear hSw; first | (go_simp; done) | (go_simp; with_reducible rfl))
      try go_frame
      refine wpAnyH_done (by kernel_rfl) ?_ _
      go_wp2_with fail
      go_meet
      case rel => exact ⟨_, rfl, rfl, rfl, hFive, hBf⟩
  case rest =>
    clear hr1 hr2 hsl2
    have hF5 := Lib.hid (five_small s zs k h100' h14')
    clear hsl
    obtain ⟨B, rfl, rfl, rfl, hFv, hbF⟩ := hcut
    have HF5 := Lib.hid hFv
    have hBl : B < wc.heap.size := by
      have := World.block_lt_of_cell? _ _ (hFv 0 (by decide))
      simpa using this
    clear hFv
    go_wp2_with fail
    go_loopw [56] (fun i wr => ∃ j : Nat, j ≤ 5 ∧ i = .int .i64 j ∧ Below wc.heap.size wc wr) (fun i _ => 5 - (intOf i).toNat)
    case atStart => exact ⟨0, Nat.zero_le _, rfl, Below.refl _ _⟩
    case round =>
      obtain ⟨j, hj, rfl, hbl⟩ := hrel
      have hsr := hbl.size
      have hB0 := hbF.trans (hbl.mono hbF.size)
      by_cases hlt : j < 5
      · have hcell : wr.cell? ⟨B, j, none⟩ = some (.string (five s zs k j)) := (hbl.cell (p := ⟨B, j, none⟩) hBl).trans (HF5.out j hlt)
        have hx := hF5.out j
        obtain ⟨x, hxe⟩ : ∃ x, five s zs k j = x := ⟨_, rfl⟩
        rw [hxe] at hcell hx
        have hgr := hg.below hB0 (Nat.le_refl _)
        obtain ⟨⟨k1, c1⟩, ok1, hO⟩ : ∃ t ok, oneR x.data.toList = (t, ok) := ⟨_, _, rfl⟩
        obtain ⟨ps, ⟨k2, c2⟩, ok2, hP⟩ : ∃ ps t ok, parseR x.data.toList = (ps, t, ok) := ⟨_, _, _, rfl⟩
        have HO := Lib.hid hO
        have HP := Lib.hid hP
        have HLEN := Lib.hid (parse_len hP)
        have hx2 : x.size ≤ maxLen := by unfold maxLen; omega
        clear hxe hO hP
        go_wp2_with fail
        refine (one_at HO.out _ hgr (by omega)).mono ?_
        rintro e w2 ⟨rfl, f2⟩
        rw [show tyv (k1, c1) = .agg #[.int .i64 k1, .string c1] from rfl]
        have hB2 := hB0.trans (f2.mono hB0.size)
        have hbl2 := hbl.trans (f2.mono (by omega))
        have hs2 := f2.size
        clear hcell
        go_wp2_with fail
        refine (rone_at HO.out _ (by omega)).mono ?_
        rintro e w3 ⟨rfl, f3⟩
        rw [show tyv (k1, c1) = .agg #[.int .i64 k1, .string c1] from rfl]
        have b3 := box2 f3
        have hB3 := hB2.trans (b3.2.2.2.2.2.2.mono hB2.size)
        have hbl3 := hbl2.trans (b3.2.2.2.2.2.2.mono (by omega))
        have hs3 : w2.heap.size < w3.heap.size := b3.1
        have K3 : TyAt w3 w2.heap.size 0 k1 c1 := ⟨b3.1, b3.2.2.1, b3.2.2.2.1⟩
        have hg3 := hg.below hB3 (Nat.le_refl _)
        clear f3 b3 f2 hgr hB2 hbl2 hbl
        go_wp2_with fail
        refine (parse_at HP.out _ (hg3.alloc _) (by omega)).mono ?_
        rintro e w4 ⟨v4, rfl, ho4, f4⟩
        rw [show tyv (k2, c2) = .agg #[.int .i64 k2, .string c2] from rfl]
        have b4 := box2 f4
        have hB4 := hB3.trans (b4.2.2.2.2.2.2.mono hB3.size)
        have hbl4 := hbl3.trans (b4.2.2.2.2.2.2.mono (by omega))
        have K4 := K3.next b4.2.2.2.2.2.2
        have L4 : TyAt w4 w3.heap.size 0 k1 c1 := ⟨b4.1, b4.2.2.1, b4.2.2.2.1⟩
        have hs4 : w3.heap.size < w4.heap.size := b4.1
        obtain ⟨a4, d4, hv4, _⟩ := ho4.rd
        subst hv4
        have R4 := ho4.rd
        have HR4 := Lib.hid R4
        clear f4 b4 K3 hB3 hbl3 ho4 R4 hg3
        go_wp2_with fail
        refine (rparse_at HP.out _ (by omega)).mono ?_
        rintro e w5 ⟨v5, rfl, ho5, f5⟩
        rw [show tyv (k2, c2) = .agg #[.int .i64 k2, .string c2] from rfl]
        have b5 := box2 f5
        have hB5 := hB4.trans (b5.2.2.2.2.2.2.mono hB4.size)
        have hbl5 := hbl4.trans (b5.2.2.2.2.2.2.mono (by omega))
        have K5 := K4.next b5.2.2.2.2.2.2
        have L5 := L4.next b5.2.2.2.2.2.2
        have M5 : TyAt w5 w4.heap.size 0 k2 c2 := ⟨b5.1, b5.2.2.1, b5.2.2.2.1⟩
        have hs5 : w4.heap.size < w5.heap.size := b5.1
        have R5 := HR4.out.below b5.2.2.2.2.2.2 (Nat.le_refl _)
        obtain ⟨a5, d5, hv5, _⟩ := ho5.rd
        subst hv5
        have HR5 := Lib.hid R5
        have HQ5 := Lib.hid ho5.rd
        have nn1 : ¬ w2.heap.size = w5.heap.size := by omega
        have nn2 : ¬ w3.heap.size = w5.heap.size := by omega
        have nn3 : ¬ w4.heap.size = w5.heap.size := by omega
        have mm1 : w2.heap.size < w5.heap.size := by omega
        have mm2 : w3.heap.size < w5.heap.size := by omega
        obtain ⟨_, p1, p2⟩ := K5
        obtain ⟨_, p3, p4⟩ := L5
        obtain ⟨_, p5, p6⟩ := M5
        clear f5 b5 K4 L4 hB4 hbl4 ho5 R5 HR4
        go_wp2_with fail
        refine (same_at (sameB_self ps) (HR5.out.below ((Below.refl _ _).alloc (Nat.le_refl _) _) (Nat.le_refl _)) (HQ5.out.below ((Below.refl _ _).alloc (Nat.le_refl _) _) (Nat.le_refl _)) (by have := HLEN.out; omega) (by have := HLEN.out; omega)).mono ?_
        rintro e w6 ⟨rfl, f6⟩
        have b6 := box2 f6
        have hB6 := hB5.trans (b6.2.2.2.2.2.2.mono hB5.size)
        have hbl6 := hbl5.trans (b6.2.2.2.2.2.2.mono (by omega))
        have K6 : TyAt w6 w2.heap.size 0 k1 c1 := TyAt.next ⟨mm1, p1, p2⟩ b6.2.2.2.2.2.2
        have M6 : TyAt w6 w4.heap.size 0 k2 c2 := TyAt.next ⟨hs5, p5, p6⟩ b6.2.2.2.2.2.2
        have N6 : TyAt w6 w5.heap.size 0 k2 c2 := ⟨b6.1, b6.2.2.1, b6.2.2.2.1⟩
        have HR6 := Lib.hid (HR5.out.below b6.2.2.2.2.2.2 (Nat.le_refl _))
        have hs6 : w5.heap.size < w6.heap.size := b6.1
        clear f6 b6 p1 p2 p3 p4 p5 p6 nn1 nn2 nn3 hB5 hbl5
        obtain ⟨_, p1, p2⟩ := K6
        obtain ⟨_, p5, p6⟩ := M6
        obtain ⟨_, p7, p8⟩ := N6
        go_wp2_with fail
        refine (name_any _ _ hx2).mono ?_
        rintro e w' ⟨rfl, rfl⟩
        go_wp2_with fail
        refine (rname_any _ _ hx2).mono ?_
        rintro e w' ⟨rfl, rfl⟩
        cases ok2 with
        | true =>
          obtain ⟨s1, s2, s3⟩ := parse_sizes HP.out hx
          have S1 := Lib.hid s1
          have S3 := Lib.hid s3
          clear s1 s3
          simp only at s2
          go_wp2_with fail
          refine (of_any _ ps _ _ _ HR6.out (by have := HLEN.out; omega) S1.out s2).mono ?_
          rintro e w7 ⟨rfl, f7⟩
          rw [S3.out]
          have hB7 := hB6.trans (f7.mono hB6.size)
          have hbl7 := hbl6.trans (f7.mono (by omega))
          cases ok1 with
          | true =>
            obtain ⟨t1, t2⟩ := one_sizes HO.out hx
            simp only at t1
            have T2 := Lib.hid t2
            have p9 : w7.cell? ⟨w2.heap.size, 0, none⟩ = some (.int .i64 k1) := (f7.cell (p := ⟨w2.heap.size, 0, none⟩) (by simp; omega)).trans p1
            have p10 : w7.cell? ⟨w2.heap.size, 1, none⟩ = some (.string c1) := (f7.cell (p := ⟨w2.heap.size, 1, none⟩) (by simp; omega)).trans p2
            clear t2 p1 p2 p5 p6 p7 p8 f7
            go_wp2_with fail
            refine (type_any k1 c1 _ (by omega)).mono ?_
            rintro e w8 ⟨rfl, f8⟩
            rw [show typeT k1 c1 = x from T2.out]
            have hbl8 := hbl7.trans (f8.mono (by have := hbl7.size; omega))
            clear p9 p10
            go_wp2_with fail
            go_roundw
            case rel => exact ⟨j + 1, by omega, by go_num, hbl8⟩
            case measure => simp [intOf]; omega
          | false =>
            clear f7
            go_wp2_with fail
            go_roundw
            case rel => exact ⟨j + 1, by omega, by go_num, hbl7⟩
            case measure => simp [intOf]; omega
        | false =>
          cases ok1 with
          | true =>
            obtain ⟨t1, t2⟩ := one_sizes HO.out hx
            simp only at t1
            have T2 := Lib.hid t2
            clear t2
            go_wp2_with fail
            refine (type_any k1 c1 _ (by omega)).mono ?_
            rintro e w8 ⟨rfl, f8⟩
            rw [show typeT k1 c1 = x from T2.out]
            have hbl8 := hbl6.trans (f8.mono (by have := hbl6.size; omega))
            go_wp2_with fail
            go_roundw
            case rel => exact ⟨j + 1, by omega, by go_num, hbl8⟩
            case measure => simp [intOf]; omega
          | false =>
            go_wp2_with fail
            go_roundw
            case rel => exact ⟨j + 1, by omega, by go_num, hbl6⟩
            case measure => simp [intOf]; omega
      · go_wp2_with fail
        go_ret
        exact ⟨rfl, hB0⟩
end Go.Proofs.Ytijbgbggmakfoaa
