/- What Read of the program's Pool answers. -/
import Derived.Test.YtnpbhpidciiciaaPRPlain
import Derived.Deep.LoopGhost
namespace Go.Proofs.Ytnpbhpidciiciaa
open Go.RowKit Go.Maps

set_option maxHeartbeats 400000 in
set_option maxRecDepth 100000 in
theorem pread_nil (w : World) : Calls Try.prog 19 #[.pointer none] w fun e w' => e = .returned (.tuple #[.pointer none, .bool false]) ∧ w = w' := by
  go_enter Try.func19, Try.ntmps19
  go_wp2
  go_ret2
  exact ⟨rfl, rfl⟩

/-- what Read answers: a Pool of those texts, or none -/
def ReadAns (r : Ending) (w' : World) (B : Nat) (L : List ByteArray) (e : Nat) : Prop :=
  if e = 0 then ∃ pb mb sl, r = .returned (.tuple #[.pointer (some ⟨pb, 0, none⟩), .bool true]) ∧ Pl w' B pb mb sl L else r = .returned (.tuple #[.pointer none, .bool false])

set_option maxHeartbeats 1000000 in
set_option maxRecDepth 100000 in
theorem pread_any (B rb : Nat) (bs : List UInt8) (k e : Nat) (LF : List ByteArray) (kF eF : Nat) (w : World) (hF : poolR bs k e = (LF, kF, eF)) (h : Rdr w B rb bs k e) (he : e < 100) (hl : bs.length ≤ 300000) :
    Calls Try.prog 19 #[.pointer (some ⟨rb, 0, none⟩)] w fun r w' => ReadAns r w' w.heap.size LF eF ∧ Rdr w' B rb bs kF eF ∧ Kpt [rb] w w' := by
  have hk := h.2.1
  have hrb := h.lt
  have hBr := h.1
  rcases hN : numR bs k e 10000 with ⟨n, k1, e1⟩
  have hf := numR_le hk he hN
  have hn := hf.1
  have he1 := hf.2.2
  rw [poolR_num hN] at hF
  have HN := Lib.hid hN
  have HF := Lib.hid hF
  clear hN hF hf
  go_enter Try.func19, Try.ntmps19
  go_wp2_with fail
  refine (pnew_any _).mono ?_
  rintro r w1 ⟨pb, mb, rfl, hp1, hb1⟩
  have k1' : Kpt [rb] w w1 := .of_below hb1
  have hr1 : Rdr w1 B rb bs k e := h.kpt (.of_below hb1 : Kpt [] w w1) (fun g _ _ => by simp)
  clear hb1
  go_wp2_with fail
  refine (rnum_at HN.out hr1 he (by omega) (by decide) (by decide)).mono ?_
  rintro r w2 ⟨rfl, hg2⟩
  have hr2 := hg2.1
  have kg : Kpt [rb] w1 w2 := .gone hg2 (by simp)
  have k2 : Kpt [rb] w w2 := k1'.trans kg (fun x hx => .inl hx)
  have hp2 : Pl w2 w.heap.size pb mb (.slice none 0 0) [] := hp1.kpt kg (fun x hx => by have := (hp1.lt x hx).1; simp; omega)
  clear hg2 hr1 hp1 kg k1'
  go_wp2
  go_loopg [23] n (fun g _ wr => ∃ (sl : Value) (L : List ByteArray) (k e : Nat), g + L.length = n ∧ e < 100 ∧ Hid (L ++ (textsR bs g k e).1 = LF ∧ (textsR bs g k e).2 = (kF, eF)) ∧ Pl wr w.heap.size pb mb sl L ∧ Rdr wr B rb bs k e ∧ Kpt [rb] w wr)
  case atStart => exact ⟨_, [], k1, e1, by simp, he1, Lib.hid ⟨by rw [HF.out]; rfl, by rw [HF.out]⟩, hp2, hr2, k2⟩
  case round =>
    clear hp2 hr2 k2
    obtain ⟨sl, L, k2, e2, hgl, he2, HT, hp, hr, hkp⟩ := hrel
    by_cases hlt : L.length < n
    · obtain ⟨g', rfl⟩ : ∃ g', gk = g' + 1 := ⟨gk - 1, by omega⟩
      by_cases he0 : e2 = 0
      · subst he0
        rcases hT : textR bs k2 0 1000 with ⟨l, k3, e3⟩
        have hle := textR_le hr.2.1 (by decide) hT
        have hl3 : (tx l).size ≤ 1000000 := by rw [tx_size]; omega
        have he3 := hle.2
        have hT2 := textsR_more (n := g') hT
        have HH := Lib.hid hT
        have HU := Lib.hid hT2
        clear hT hT2 hle
        go_wp2_with fail
        refine (plen_any _ pb mb sl L _ hp).mono ?_
        rintro r w' ⟨rfl, rfl⟩
        go_wp2_with fail
        refine (rerr_any B rb bs k2 0 _ hr).mono ?_
        rintro r w' ⟨rfl, rfl⟩
        go_wp2_with fail
        refine (rtext_at HH.out hr (by decide) (by omega) (by decide) (by decide)).mono ?_
        rintro r w3 ⟨rfl, hg3⟩
        have hr3 := hg3.1
        have kg : Kpt [rb] wr w3 := .gone hg3 (by simp)
        have hp3 : Pl w3 w.heap.size pb mb sl L := hp.kpt kg (fun x hx => by have := (hp.lt x hx).1; simp; omega)
        have hk3 : Kpt [rb] w w3 := hkp.trans kg (fun x hx => .inl hx)
        have hs3 := hk3.size
        clear hg3 hr hp kg hkp
        go_wp2_with fail
        refine (padd_any w.heap.size pb mb sl L (tx l) _ hp3 hs3 (by omega) hl3).mono ?_
        rintro r w4 ⟨sl4, rfl, hp4, hk4, _⟩
        have hr4 : Rdr w4 B rb bs k3 e3 := hr3.kpt hk4 (fun g _ hg hx => by have := (hp3.lt g hx).1; omega)
        have hkk : Kpt [rb] w w4 := hk3.trans hk4 (fun x hx => .inr (hp3.lt x hx).1)
        clear hp3 hk3 hk4 hr3
        have HR : Hid ((L ++ [tx l]) ++ (textsR bs g' k3 e3).1 = LF ∧ (textsR bs g' k3 e3).2 = (kF, eF)) := Lib.hid (by
          have h1 := HT.out
          rw [HU.out] at h1
          exact ⟨by rw [← h1.1]; simp, h1.2⟩)
        clear HT HU HH
        go_wp2
        go_roundg g'
        case measure => omega
        case rel => exact ⟨sl4, L ++ [tx l], k3, e3, by rw [List.length_append]; simp; omega, he3, HR, hp4, hr4, hkk⟩
      · have heb : ((e2 : Int) == 0) = false := beq_eq_false_iff_ne.2 (by omega)
        have hen : ((e2 : Int) != 0) = true := by rw [bne_iff_ne]; omega
        go_wp2_with fail
        refine (plen_any _ pb mb sl L _ hp).mono ?_
        rintro r w' ⟨rfl, rfl⟩
        go_wp2_with fail
        refine (rerr_any B rb bs k2 e2 _ hr).mono ?_
        rintro r w' ⟨rfl, rfl⟩
        go_wp2_with fail
        refine (rerr_any B rb bs k2 e2 _ hr).mono ?_
        rintro r w' ⟨rfl, rfl⟩
        have HR : Hid (kF = k2 ∧ eF = e2) := Lib.hid (by
          have h1 := HT.out.2
          rw [textsR_stop he0] at h1
          simp only [Prod.mk.injEq] at h1
          exact ⟨h1.1.symm, h1.2.symm⟩)
        go_wp2
        go_ret2
        obtain ⟨rfl, rfl⟩ := HR.out
        exact ⟨by unfold ReadAns; rw [if_neg he0]; rfl, hr, hkp⟩
    · obtain rfl : gk = 0 := by omega
      have HR : Hid (LF = L ∧ kF = k2 ∧ eF = e2) := Lib.hid (by
        have h1 := HT.out
        simp only [textsR, List.append_nil, Prod.mk.injEq] at h1
        exact ⟨h1.1.symm, h1.2.1.symm, h1.2.2.symm⟩)
      by_cases he0 : e2 = 0
      · subst he0
        go_wp2_with fail
        refine (plen_any _ pb mb sl L _ hp).mono ?_
        rintro r w' ⟨rfl, rfl⟩
        go_wp2_with fail
        refine (rerr_any B rb bs k2 0 _ hr).mono ?_
        rintro r w' ⟨rfl, rfl⟩
        go_wp2
        go_ret2
        obtain ⟨rfl, rfl, rfl⟩ := HR.out
        exact ⟨by unfold ReadAns; rw [if_pos rfl]; exact ⟨pb, mb, sl, rfl, hp⟩, hr, hkp⟩
      · have hen : ((e2 : Int) != 0) = true := by rw [bne_iff_ne]; omega
        go_wp2_with fail
        refine (plen_any _ pb mb sl L _ hp).mono ?_
        rintro r w' ⟨rfl, rfl⟩
        go_wp2_with fail
        refine (rerr_any B rb bs k2 e2 _ hr).mono ?_
        rintro r w' ⟨rfl, rfl⟩
        go_wp2
        go_ret2
        obtain ⟨rfl, rfl, rfl⟩ := HR.out
        exact ⟨by unfold ReadAns; rw [if_neg he0]; rfl, hr, hkp⟩

end Go.Proofs.Ytnpbhpidciiciaa
