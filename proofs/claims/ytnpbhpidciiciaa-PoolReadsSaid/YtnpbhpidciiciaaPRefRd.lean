/- What the answers' PoolRead comes to. -/
import Derived.Test.YtnpbhpidciiciaaPRef
import Derived.Test.YtnpbhpidciiciaaPRPlain
import Derived.Deep.RegionLaw
namespace Go.Proofs.Ytnpbhpidciiciaa
open Go.RowKit Go.Maps

theorem Ref.kpt {w w' : World} {M qb : Nat} {bs : List UInt8} {k e : Nat} {S : List Nat} (h : Ref w M qb bs k e) (hk : Kpt S w w') (hS : ∀ g, g ≤ qb → g ∉ S) : Ref w' M qb bs k e := by
  obtain ⟨h1, h2, p, c, hx, hr, hn⟩ := h
  have hlt := (Array.getElem?_eq_some_iff.1 hx).1
  refine ⟨h1, h2, p, c, ?_, hr.kpt hk (hn.imp id (fun h g hg => ⟨?_, hS g ?_⟩)), hn⟩
  · rw [hk.2 qb hlt (hS qb (Nat.le_refl _))]
    exact hx
  · have := h g hg; omega
  · have := h g hg; omega

theorem Kpt.goneF {S : List Nat} {w w' : World} {M qb : Nat} {bs : List UInt8} {k e : Nat} (h : GoneF w w' M qb bs k e) (hr : qb ∈ S) : Kpt S w w' := .of_grown h.2 (fun g e => by cases e; exact .inl hr)

/-- what PoolRead answers: a Pool of those texts, or none -/
def ReadAnsF (r : Ending) (w' : World) (B : Nat) (L : List ByteArray) (e : Nat) : Prop :=
  if e = 0 then ∃ pb sl, r = .returned (.tuple #[.pointer (some ⟨pb, 0, none⟩), .bool true]) ∧ Rp w' B pb sl L else r = .returned (.tuple #[.pointer none, .bool false])

set_option maxHeartbeats 1000000 in
set_option maxRecDepth 100000 in
theorem rpread_any (M qb : Nat) (bs : List UInt8) (k e : Nat) (LF : List ByteArray) (kF eF : Nat) (w : World) (hF : poolR bs k e = (LF, kF, eF)) (h : Ref w M qb bs k e) (he : e < 100) (hl : bs.length ≤ 300000) :
    Calls Try.prog 20 #[.pointer (some ⟨qb, 0, none⟩)] w fun r w' => ReadAnsF r w' w.heap.size LF eF ∧ Ref w' M qb bs kF eF ∧ Kpt [qb] w w' := by
  have hk := h.2.1
  have hqb := h.lt
  rcases hN : numR bs k e 10000 with ⟨n, k1, e1⟩
  have hf := numR_le hk he hN
  have hn := hf.1
  have he1 := hf.2.2
  rw [poolR_num hN] at hF
  have HN := Lib.hid hN
  have HF := Lib.hid hF
  clear hN hF hf
  go_enter Try.func20, Try.ntmps20
  go_wp2_with fail
  refine (fnumr_at (most := 10000) HN.out h (by omega) (by decide) (by decide)).mono ?_
  rintro r w1 ⟨rfl, hg1⟩
  have hr1 := hg1.1
  have k1' : Kpt [qb] w w1 := .goneF hg1 (by simp)
  have hs1 := k1'.size
  have hr2 : Ref (w1.alloc (.cells #[Value.slice none 0 0] 29)) M qb bs k1 e1 := hr1.kpt (Kpt.alloc [] _ _) (fun g _ => by simp)
  have k2 : Kpt [qb] w (w1.alloc (.cells #[Value.slice none 0 0] 29)) := k1'.trans (Kpt.alloc [] _ _) (fun x hx => by simp at hx)
  have hp2 : Rp (w1.alloc (.cells #[Value.slice none 0 0] 29)) w.heap.size w1.heap.size (.slice none 0 0) [] := ⟨hs1, heap_alloc_new _ _, OwnS.nil _ _, fun h => by cases h⟩
  obtain ⟨pb, hpb⟩ : ∃ pb, pb = w1.heap.size := ⟨_, rfl⟩
  rw [← hpb] at hp2
  clear hg1 hr1 k1' hs1
  go_wp2
  rw [← hpb]
  go_loopw [6] (fun i wr => ∃ (sl : Value) (L : List ByteArray) (k e : Nat), i = .int .i64 L.length ∧ L.length ≤ n ∧ e < 100 ∧ Hid (L ++ (textsR bs (n - L.length) k e).1 = LF ∧ (textsR bs (n - L.length) k e).2 = (kF, eF)) ∧ Rp wr w.heap.size pb sl L ∧ Ref wr M qb bs k e ∧ Kpt [qb] w wr) (fun i _ => n - (intOf i).toNat)
  case atStart => exact ⟨_, [], k1, e1, rfl, by simp, he1, Lib.hid ⟨by simp [HF.out], by simp [HF.out]⟩, hp2, hr2, k2⟩
  case round =>
    clear hp2 hr2 k2 hpb
    obtain ⟨sl, L, k2, e2, rfl, hLn, he2, HT, hp, hr, hkp⟩ := hrel
    obtain ⟨hplt, c0, f0⟩ := hp.cells
    obtain ⟨p0, cap0, _, _, hqlt, q0, q1, q2, _⟩ := hr.cells
    have hbp := (hp.lt pb (mem_fq.2 (.inl rfl))).1
    by_cases hlt : L.length < n
    · by_cases he0 : e2 = 0
      · subst he0
        rcases hT : textR bs k2 0 1000 with ⟨l, k3, e3⟩
        have hle := textR_le hr.2.1 (by decide) hT
        have he3 := hle.2
        have hT2 := textsR_more (n := n - (L.length + 1)) hT
        have HH := Lib.hid hT
        have HR : Hid ((L ++ [tx l]) ++ (textsR bs (n - (L.length + 1)) k3 e3).1 = LF ∧ (textsR bs (n - (L.length + 1)) k3 e3).2 = (kF, eF)) := Lib.hid (by
          have h1 := HT.out
          rw [show n - L.length = n - (L.length + 1) + 1 from by omega, hT2] at h1
          exact ⟨by rw [← h1.1]; simp, h1.2⟩)
        have hsw := hkp.size
        obtain ⟨a0, n0, c0', hsl⟩ := hp.2.2.1.slice
        subst hsl
        clear hT hT2 hle HT
        have hrD : Ref wr.drew M qb bs k2 0 := hr
        have hpD : Rp wr.drew w.heap.size pb (.slice a0 n0 c0') L := hp
        go_wp2_with fail
        go_region_law (first
          | (refine step_appS (by rfl) _ _ (by rfl) w.heap.size _ L (by rfl) (hq3.2.2.1.alloc _) w3.heap.size 1 (tx l) (by rfl) (by simp) (by omega) (by simp; omega) ?_; intro v7 w7 ho7 hg7 hl7; obtain ⟨a7, n7, c7, hv7⟩ := ho7.slice; subst hv7; obtain ⟨d0, g0, d1, hfin⟩ := rapp_facts hq3 ho7 hg7 (by simpa using hl7))
          | (rw [if_pos (by rfl)]; go_simp; go_at_call 32; refine (ftextr_at (most := 1000) HH.out hrD (by decide) (by omega) (by decide) (by decide)).mono ?_; rintro e w3 ⟨rfl, hg3⟩; have kg : Kpt [qb] wr.drew w3 := .goneF hg3 (by simp); have hq3 := hpD.kpt kg (fun x hx => (by have := (hp.lt x hx).1; simp; omega)); have hs3 := kg.size; have hc3 := hq3.cells.2.1; have hpl3 := hq3.cells.1))
        all_goals
          have hr7 : Ref (w7.setCell ⟨pb, 0, none⟩ (.slice a7 n7 c7)) M qb bs k3 e3 := hg3.1.kpt hfin.2.1 (fun g hg hx => by have := (hq3.lt g hx).1; omega)
          have hk7 : Kpt [qb] w (w7.setCell ⟨pb, 0, none⟩ (.slice a7 n7 c7)) := (hkp.drew.trans kg (fun x hx => .inl hx)).trans hfin.2.1 (fun x hx => .inr (hq3.lt x hx).1)
          have hp7 := hfin.1
          have hLl : (L ++ [tx l]).length = L.length + 1 := by simp
          clear hfin hg3 hq3 hg7 hl7 ho7 kg hkp hrD hpD hr hp
          go_wp2_with fail
          go_roundw
          case rel => exact ⟨_, L ++ [tx l], k3, e3, by rw [hLl]; go_num, by rw [hLl]; omega, he3, by rw [hLl]; exact HR, hp7, hr7, hk7⟩
          case measure => simp [intOf]; omega
      · have heb : ((e2 : Int) == 0) = false := beq_eq_false_iff_ne.2 (by omega)
        have hen : ((e2 : Int) != 0) = true := by rw [bne_iff_ne]; omega
        have HR : Hid (kF = k2 ∧ eF = e2) := Lib.hid (by
          have h1 := HT.out.2
          rw [textsR_stop he0] at h1
          simp only [Prod.mk.injEq] at h1
          exact ⟨h1.1.symm, h1.2.symm⟩)
        go_wp2
        go_ret2
        obtain ⟨rfl, rfl⟩ := HR.out
        exact ⟨by unfold ReadAnsF; rw [if_neg he0]; rfl, hr, hkp⟩
    · have hLe : L.length = n := by omega
      have HR : Hid (LF = L ∧ kF = k2 ∧ eF = e2) := Lib.hid (by
        have h1 := HT.out
        rw [hLe, Nat.sub_self] at h1
        simp only [textsR, List.append_nil, Prod.mk.injEq] at h1
        exact ⟨h1.1.symm, h1.2.1.symm, h1.2.2.symm⟩)
      clear hLe
      by_cases he0 : e2 = 0
      · subst he0
        go_wp2
        go_ret2
        obtain ⟨rfl, rfl, rfl⟩ := HR.out
        exact ⟨by unfold ReadAnsF; rw [if_pos rfl]; exact ⟨pb, sl, rfl, hp⟩, hr, hkp⟩
      · have hen : ((e2 : Int) != 0) = true := by rw [bne_iff_ne]; omega
        go_wp2
        go_ret2
        obtain ⟨rfl, rfl, rfl⟩ := HR.out
        exact ⟨by unfold ReadAnsF; rw [if_neg he0]; rfl, hr, hkp⟩

end Go.Proofs.Ytnpbhpidciiciaa
