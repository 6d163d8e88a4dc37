/- Texts that the proof is made of, joined. No condition. -/
import Derived.Test.YtlmpnmnfloeoiaaGreatC104
import Derived.Test.YtlmpnmnfloeoiaaGreatC108
import Derived.Test.YtlmpnmnfloeoiaaGreatC107
import Derived.Deep.RegionLaw
import Derived.Deep.RegionHeld3
import Derived.StillTailTactics
import Derived.Test.YtlmpnmnfloeoiaaGreatC102
import Derived.Test.YtlmpnmnfloeoiaaGreatC103
import Derived.Deep.LoopGhost
import Derived.Test.YtlmpnmnfloeoiaaGreatC101
import Derived.Test.YtlmpnmnfloeoiaaGreatC10H
set_option linter.unusedVariables false
set_option linter.unusedSimpArgs false
set_option maxRecDepth 100000
set_option maxHeartbeats 16000000
namespace Go.Proofs.YtlmpnmnfloeoiaaGreat.R
open Go.RowKit Go.Proofs.YtlmpnmnfloeoiaaGreat.D Go.Proofs.YtlmpnmnfloeoiaaGreat.O Go.Proofs.YtlmpnmnfloeoiaaGreat.A
def FewC (c : Cls) : Prop := c.ifaces.length ≤ 1000000 ∧ c.fields.length ≤ 1000000 ∧ c.methods.length ≤ 1000000 ∧ ∀ m ∈ c.methods, m.params.length ≤ 1000000 ∧ m.code.length ≤ 1000000 ∧ m.hs.length ≤ 1000000
theorem few_find {K : List Cls} (h : ∀ c ∈ K, FewC c) (n : ByteArray) : FewC ((findC K n).getD noC) := by
  unfold findC bltC
  cases bltS n with
  | some s => exact ⟨Nat.zero_le _, Nat.zero_le _, Nat.zero_le _, fun m hm => by cases hm⟩
  | none =>
    cases hc : K.find? (fun c => decide (c.name = n)) with
    | none => exact ⟨Nat.zero_le _, Nat.zero_le _, Nat.zero_le _, fun m hm => by cases hm⟩
    | some c => exact h c (List.mem_of_find?_eq_some hc)
set_option maxHeartbeats 4000000 in
set_option maxRecDepth 100000 in
theorem Class_t (ok : Nat → Prop) (tb mt : Nat) (vs : Value) (K : List Cls) (n : ByteArray) (w : World) (h : TrW w ok tb mt vs K) (hn : n.size ≤ maxLen) (hf : ∀ c ∈ K, FewC c) :
    Calls Tryz.prog 81 #[.pointer (some ⟨tb, 0, none⟩), .string n] w fun e w' => ∃ pi ni ci pf nf cf pm nm cm, e = .returned (.tuple #[.agg #[.string ((findC K n).getD noC).name, .string ((findC K n).getD noC).super, .slice pi ni ci, .int .i64 ((findC K n).getD noC).kind, .slice pf nf cf, .slice pm nm cm], .bool (findC K n).isSome]) ∧
      cO (fun b => w.heap.size ≤ b) w' [.string ((findC K n).getD noC).name, .string ((findC K n).getD noC).super, .slice pi ni ci, .int .i64 ((findC K n).getD noC).kind, .slice pf nf cf, .slice pm nm cm] ((findC K n).getD noC) ∧ Below w.heap.size w w' := by
  have HT := Lib.hid h
  have HF := Lib.hid (few_find hf n)
  clear h hf
  obtain ⟨w0, hw0⟩ : ∃ x, x = w.alloc (.cells #[.string ⟨#[]⟩, .string ⟨#[]⟩, .slice none 0 0, .int .i64 0, .slice none 0 0, .slice none 0 0] 27) := ⟨_, rfl⟩
  have HB0 : Hid (Below w.heap.size w w0) := Lib.hid (by rw [hw0]; exact below_alR _ _)
  have hs0 : w0.heap.size = w.heap.size + 1 := by rw [hw0]; simp
  have HX0 : Hid (w0.heap[w.heap.size]? = some (.cells #[.string ⟨#[]⟩, .string ⟨#[]⟩, .slice none 0 0, .int .i64 0, .slice none 0 0, .slice none 0 0] 27 (0, 0))) := Lib.hid (by rw [hw0]; exact heap_alloc_new _ _)
  go_enter Tryz.func81, Tryz.ntmps81
  go_wp2_with fail
  rw [← hw0]
  clear hw0
  refine (find_t ok tb mt vs K n w0 (HT.out.below HB0.out) hn).mono ?_
  rintro e w1 ⟨pi, ni, ci, pf, nf, cf, pm, nm, cm, rfl, k1, k2, k3, hb1⟩
  obtain ⟨c, hc⟩ : ∃ c, (findC K n).getD noC = c := ⟨_, rfl⟩
  rw [hc] at HF k1 k2 k3 ⊢
  have HC := Lib.hid hc
  clear hc
  obtain ⟨k, hk⟩ : ∃ k, (findC K n).isSome = k := ⟨_, rfl⟩
  rw [hk]
  have HK := Lib.hid hk
  clear hk
  have hX1 := (hb1.block _ (by omega)).trans HX0.out
  have hs1 := hb1.size
  have HB1 := Lib.hid (HB0.out.trans (hb1.mono (by omega)))
  have hb2 := hb1.trans ((below_alR w1 (.cells #[.string c.name, .string c.super, .slice pi ni ci, .int .i64 c.kind, .slice pf nf cf, .slice pm nm cm] 27)).mono hs1)
  have K1 := Lib.hid (k1.any (sP.grow _) hb2)
  have K2 := Lib.hid (k2.any (sP.grow _) hb2)
  have K3 := Lib.hid (k3.any mP.grow hb2)
  have HX1 := Lib.hid hX1
  clear hb1 hb2 HX0 k1 k2 k3 hX1
  go_wp2_with fail
  refine (copyc_t c pi pf pm ni ci nf cf nm cm _ K1.out K2.out K3.out HF.out.1 HF.out.2.1 HF.out.2.2.1 HF.out.2.2.2).mono ?_
  rintro e w3 ⟨qi, mi, di, qf, mf, df, qm, mm, dm, rfl, hco, hb3⟩
  have hX3 : w3.heap[w.heap.size]? = _ := (hb3.block _ (by simp; omega)).trans (((below_alR w1 _).block _ (by omega)).trans HX1.out)
  have hz3 := hb3.size
  simp only [World.size_alloc] at hz3
  have hb3' := HB1.out.trans (((below_alR w1 (.cells #[.string c.name, .string c.super, .slice pi ni ci, .int .i64 c.kind, .slice pf nf cf, .slice pm nm cm] 27)).trans (hb3.mono (by simp))).mono (by omega))
  have HB3 := Lib.hid hb3'
  have HCO := Lib.hid hco
  clear hb3 hb3' hco HX1 K1 K2 K3
  obtain ⟨xl, xc, xf⟩ := boxN hX3
  have x0 := xc 0 _ rfl
  have z0 := xf 0
  have x1 := xc 1 _ rfl
  have z1 := xf 1
  have x2 := xc 2 _ rfl
  have z2 := xf 2
  have x3 := xc 3 _ rfl
  have z3 := xf 3
  have x4 := xc 4 _ rfl
  have z4 := xf 4
  have x5 := xc 5 _ rfl
  have z5 := xf 5
  simp only [Nat.zero_add] at x0 x1 x2 x3 x4 x5
  clear xc xf
  go_wp2_with fail
  have hk := (set6 (v0 := .string c.name) (v1 := .string c.super) (v2 := .slice qi mi di) (v3 := .int .i64 c.kind) (v4 := .slice qf mf df) (v5 := .slice qm mm dm) hX3).2
  refine bodyPost_ret (v := .tuple #[.agg #[.string c.name, .string c.super, .slice qi mi di, .int .i64 c.kind, .slice qf mf df, .slice qm mm dm], .bool k]) (by simp [*, results, Tryz.results81, go_sem]) rfl ?_
  rw [HC.out, HK.out]
  refine ⟨_, _, _, _, _, _, _, _, _, rfl, ?_, HB3.out.trans (hk.below (fun x hx => by simp at hx; omega) (by omega))⟩
  exact cO.grow _ _ _ _ _ _ HCO.out (fun b hb hl => by simp at hb; omega) (.of_kpt hk (fun b hb => by simp at hb ⊢; omega)) hk.size
end Go.Proofs.YtlmpnmnfloeoiaaGreat.R
namespace Go.Proofs.YtlmpnmnfloeoiaaGreat.R
open Go.RowKit Go.Proofs.YtlmpnmnfloeoiaaGreat.D Go.Proofs.YtlmpnmnfloeoiaaGreat.O Go.Proofs.YtlmpnmnfloeoiaaGreat.A
theorem SzT.keep {a : List Cls} (h : SzT (a.map skOf)) : SzT ((keepL a).map skOf) := by
  refine ⟨?_, fun c hc => ?_⟩
  · have h1 := h.1
    have h2 := keepL_len a
    rw [List.length_map] at h1 ⊢
    omega
  · obtain ⟨d, hd, rfl⟩ := List.mem_map.1 hc
    exact h.2 _ (List.mem_map.2 ⟨d, keepL_mem a d hd, rfl⟩)
theorem SzT.front {a : List Cls} (h : SzT (a.map skOf)) (i : Nat) : SzT ((a.take i).map skOf) := by
  refine ⟨?_, fun c hc => ?_⟩
  · have h1 := h.1
    rw [List.length_map] at h1 ⊢
    rw [List.length_take]
    omega
  · obtain ⟨d, hd, rfl⟩ := List.mem_map.1 hc
    exact h.2 _ (List.mem_map.2 ⟨d, List.mem_of_mem_take hd, rfl⟩)
def okR (B tb mb : Nat) (vs : Value) : Nat → Prop := fun b => B ≤ b ∧ b ≠ tb ∧ b ≠ mb ∧ vs.ownBlock ≠ some b
def TrB (w : World) (B tb mb : Nat) (vs : Value) (rs : List (Raw 6)) (L : List ByteArray) (K : List Cls) : Prop :=
  w.heap[tb]? = some (.cells #[vs, .map (some mb)] 67 (0, 0)) ∧ B ≤ tb ∧ B ≤ mb ∧ OwnX 6 27 (sP rawC) w B vs rs ∧ All2 (fun r c => cP (okR B tb mb vs) w (rawC r) c) rs K ∧ vs.ownBlock ≠ some tb ∧ vs.ownBlock ≠ some mb ∧ Mp w mb L.length L
theorem TrB.lt {w : World} {B tb mb : Nat} {vs : Value} {rs : List (Raw 6)} {L : List ByteArray} {K : List Cls} (h : TrB w B tb mb vs rs L K) : tb < w.heap.size ∧ mb < w.heap.size ∧ tb ≠ mb := by
  obtain ⟨h1, _, _, _, _, _, _, h8⟩ := h
  obtain ⟨es, cl, hm⟩ := h8.map
  refine ⟨(Array.getElem?_eq_some_iff.1 h1).1, (Array.getElem?_eq_some_iff.1 hm).1, ?_⟩
  rintro rfl
  rw [h1] at hm
  cases hm
theorem TrB.cells {w : World} {B tb mb : Nat} {vs : Value} {rs : List (Raw 6)} {L : List ByteArray} {K : List Cls} (h : TrB w B tb mb vs rs L K) : tb < w.heap.size ∧ w.cell? ⟨tb, 0, none⟩ = some vs ∧ w.cell? ⟨tb, 1, none⟩ = some (.map (some mb)) ∧ w.frozen? ⟨tb, 0, none⟩ = false := by
  have h3 := h.1
  refine ⟨(Array.getElem?_eq_some_iff.1 h3).1, ?_, ?_, ?_⟩ <;> simp [World.cell?, World.frozen?, h3]
theorem TrB.below {w w' : World} {B tb mb : Nat} {vs : Value} {rs : List (Raw 6)} {L : List ByteArray} {K : List Cls} (h : TrB w B tb mb vs rs L K) (hb : Below w.heap.size w w') : TrB w' B tb mb vs rs L K := by
  have hlt := h.lt
  obtain ⟨h1, h2, h3, h4, h5, h6, h7, h8⟩ := h
  exact ⟨(hb.block _ hlt.1).trans h1, h2, h3, h4.kptS (.of_below hb : Kpt [] w w') (fun _ _ => by simp), h5.imp (fun r c h => cP.grow _ _ _ _ _ _ h (fun _ h _ => h) (.of_below hb) hb.size), h6, h7, h8.kpt (.of_below hb : Kpt [] w w') (by simp)⟩
theorem TrB.store {w w' : World} {B tb mb : Nat} {vs : Value} {rs : List (Raw 6)} {L L' : List ByteArray} {K : List Cls} (h : TrB w B tb mb vs rs L K) (hm : Mp w' mb L'.length L') (hg : w.grownBy w' (some mb)) : TrB w' B tb mb vs rs L' K ∧ Kpt [mb] w w' := by
  have hlt := h.lt
  obtain ⟨h1, h2, h3, h4, h5, h6, h7, h8⟩ := h
  have k : Kpt [mb] w w' := .of_grown hg (fun g e => by cases e; exact .inl (by simp))
  exact ⟨⟨(k.2 _ hlt.1 (by simpa using hlt.2.2)).trans h1, h2, h3, h4.kptS k (fun g e => by simp; rintro rfl; exact h7 e), h5.imp (fun r c h => cP.grow _ _ _ _ _ _ h (fun _ h _ => h) (.of_kpt k (fun b hb => by simpa using hb.2.2.1)) k.size), h6, h7, hm⟩, k⟩
theorem TrB.app {w w1 : World} {B tb mb : Nat} {vs v' : Value} {rs : List (Raw 6)} {L : List ByteArray} {K : List Cls} {rX : Raw 6} {c : Cls} (h : TrB w B tb mb vs rs L K) (hB : B ≤ w.heap.size) (hm : cP (okR B tb mb vs) w (rawC rX) c) (ho : OwnX 6 27 (sP rawC) w1 B v' (rs ++ [rX])) (hg : w.grownBy w1 vs.ownBlock) (hl : v'.ownBlock = vs.ownBlock ∨ v'.ownBlock = some w.heap.size) :
    tb < w1.heap.size ∧ w1.cell? ⟨tb, 0, none⟩ = some vs ∧ w1.frozen? ⟨tb, 0, none⟩ = false ∧ TrB (w1.setCell ⟨tb, 0, none⟩ v') B tb mb v' (rs ++ [rX]) L (K ++ [c]) ∧ Below B w (w1.setCell ⟨tb, 0, none⟩ v') := by
  have hlt := h.lt
  obtain ⟨h1, h2, h3, h4, h5, h6, h7, h8⟩ := h
  have hw1 : w1.heap[tb]? = some (.cells #[vs, .map (some mb)] 67 (0, 0)) := by rw [hg.block tb hlt.1 (fun e => h6 e.symm)]; exact h1
  have k1 : Kpt vs.ownBlock.toList w w1 := .of_grown hg (fun g e => .inl (by rw [e]; simp))
  have k2 : Kpt [tb] w1 (w1.setCell ⟨tb, 0, none⟩ v') := Kpt.set _ _ _ _ _ (by simp)
  have hne : ∀ {x : Nat}, x < w.heap.size → vs.ownBlock ≠ some x → v'.ownBlock ≠ some x := fun {x} hx hv => by
    rcases hl with e | e
    · rw [e]; exact hv
    · rw [e]; simp only [ne_eq, Option.some.injEq]; omega
  have kk : Keeps (okR B tb mb vs) w (w1.setCell ⟨tb, 0, none⟩ v') := fun b hb hlb => by
    rw [k2.2 b (Nat.lt_of_lt_of_le hlb hg.size) (by simpa using hb.2.1), k1.2 b hlb (by simpa using fun e => hb.2.2.2 e)]
  have hoo : ∀ b, okR B tb mb vs b → b < w.heap.size → okR B tb mb v' b := fun b hb hlb => ⟨hb.1, hb.2.1, hb.2.2.1, hne hlb hb.2.2.2⟩
  have hsz : w.heap.size ≤ (w1.setCell ⟨tb, 0, none⟩ v').heap.size := Nat.le_trans hg.size k2.size
  refine ⟨Nat.lt_of_lt_of_le hlt.1 hg.size, by simp [World.cell?, hw1], by simp [World.frozen?, hw1], ⟨?_, h2, h3, ho.kptS k2 (fun g e => by simp; rintro rfl; exact hne hlt.1 h6 e), ?_, hne hlt.1 h6, hne hlt.2.1 h7, (h8.kpt k1 (by simpa using h7)).kpt k2 (by simpa using hlt.2.2.symm)⟩, ?_⟩
  · rw [heap_setCell_same w1 tb 0 _ _ _ hw1]; rfl
  · exact (h5.imp (fun r x h => cP.grow _ _ _ _ _ _ h hoo kk hsz)).app ⟨cP.grow _ _ _ _ _ _ hm hoo kk hsz, trivial⟩
  · have b1 : Below B w w1 := ⟨hg.os, hg.tape, hg.output, hg.size, fun k hk => hg.block k (by omega) (fun e => by have := (h4.lt k e.symm).1; omega)⟩
    exact b1.trans (k2.below (fun x hx => by simp at hx; omega) (Nat.le_trans hB hg.size))
theorem TrB.done {w : World} {B tb mb : Nat} {vs : Value} {rs : List (Raw 6)} {K : List Cls} (h : TrB w B tb mb vs rs (K.map (·.name)) K) (hs : SzT (K.map skOf)) : TrW w (fun b => B ≤ b) tb mb vs K := by
  obtain ⟨h1, h2, h3, h4, h5, h6, h7, h8⟩ := h
  rw [List.length_map] at h8
  exact ⟨h2, h3, h1, (h4.rd (sP.grow _)).raw (h5.imp (fun r x h => cP.grow _ _ _ _ _ _ h (fun b hb _ => hb.1) (fun _ _ _ => rfl) (Nat.le_refl _))), h8, hs⟩
theorem TrB.ready {W wx : World} {B tb mb : Nat} {vs : Value} {rs : List (Raw 6)} {L : List ByteArray} {K : List Cls} (h : TrB W B tb mb vs rs L K) (hB : B ≤ W.heap.size) {l : List Value} {c : Cls} (hco : cO (fun b => W.heap.size ≤ b) wx l c) (hbx : Below W.heap.size W wx) (lit : Array Value) (hlit : lit.toList = l) :
    ∃ rX : Raw 6, RdX 6 (sP rawC) anyB (wx.alloc (.cells lit 27)) (.slice (some ⟨wx.heap.size, 0, none⟩) 1 1) [rX] ∧ cP (okR B tb mb vs) (wx.alloc (.cells lit 27)) (rawC rX) c ∧ TrB (wx.alloc (.cells lit 27)) B tb mb vs rs L K ∧ Below W.heap.size W (wx.alloc (.cells lit 27)) := by
  have hb := below_alR wx (.cells lit 27)
  have hlt := h.lt
  have hown := h.2.2.2.1.lt
  refine ⟨⟨l, shape_cO _ _ _ _ hco⟩, rdX_lit1 rawC_len wx (⟨l, shape_cO _ _ _ _ hco⟩ : Raw 6) _ _ hlit, ?_, (h.below hbx).below hb, hbx.trans (hb.mono hbx.size)⟩
  refine cP.grow _ _ _ _ _ _ hco.rd (fun b (hb : W.heap.size ≤ b) _ => ⟨Nat.le_trans hB hb, by omega, by omega, fun e => ?_⟩) (.of_below hb) hb.size
  have := (hown b e).2
  omega
theorem TrB.len {w : World} {B tb mb : Nat} {vs : Value} {rs : List (Raw 6)} {L : List ByteArray} {K : List Cls} (h : TrB w B tb mb vs rs L K) : ∃ p c, vs = .slice p K.length c ∧ rs.length = K.length := by
  obtain ⟨p, c, e, _⟩ := (h.2.2.2.1.rd (sP.grow _)).len
  have hl := h.2.2.2.2.1.len
  rw [hl] at e
  exact ⟨p, c, e, hl⟩
set_option maxHeartbeats 4000000 in
set_option maxRecDepth 100000 in
theorem New_t (A : List Cls) (p : Option Addr) (cap : Nat) (ok : Nat → Prop) (w : World) (hr : RdX 6 cP ok w (.slice p A.length cap) A) (hs : SzT (A.map skOf)) (hf : ∀ c ∈ A, FewC c) :
    Calls Tryz.prog 11 #[.agg #[.slice p A.length cap]] w fun e w' => ∃ tb mb vs, e = .returned (.pointer (some ⟨tb, 0, none⟩)) ∧ TrW w' (fun b => w.heap.size ≤ b) tb mb vs (keepL A) ∧ Below w.heap.size w w' := by
  have HR := Lib.hid hr
  have HS := Lib.hid hs
  have HF := Lib.hid hf
  have hAl : A.length ≤ 1000 := by have := hs.1; rwa [List.length_map] at this
  have hcap : A.length ≤ cap := by obtain ⟨_, _, e, h, _⟩ := hr; simp only [Value.slice.injEq] at e; rw [e.2.2]; exact h
  clear hr hs hf
  have hmm := @run_makeMap Tryz.prog
  go_enter Tryz.func11, Tryz.ntmps11
  go_wp2_with fail
  have hal := heap_alloc_new ((w.alloc (.cells #[.slice p A.length cap] 30)).alloc (.map #[] 0)) (.cells #[.slice none 0 0, .map (some (w.heap.size + 1))] 67)
  have hmp := Mp.made (w.alloc (.cells #[.slice p A.length cap] 30))
  rw [World.size_alloc, World.size_alloc] at hal
  rw [World.size_alloc] at hmp
  have H0 : TrB (((w.alloc (.cells #[.slice p A.length cap] 30)).alloc (.map #[] 0)).alloc (.cells #[.slice none 0 0, .map (some (w.heap.size + 1))] 67)) w.heap.size (w.heap.size + 2) (w.heap.size + 1) (.slice none 0 0) [] [] [] := ⟨hal, by omega, by omega, OwnX.nil _ _ _ _ _, trivial, by simp [Value.ownBlock], by simp [Value.ownBlock], hmp.kpt (Kpt.alloc [] _ _) (by simp)⟩
  obtain ⟨w0, hw0⟩ : ∃ x, x = (((w.alloc (.cells #[.slice p A.length cap] 30)).alloc (.map #[] 0)).alloc (.cells #[.slice none 0 0, .map (some (w.heap.size + 1))] 67)) := ⟨_, rfl⟩
  rw [← hw0] at H0 ⊢
  have HB0 : Hid (Below w.heap.size w w0) := Lib.hid (by rw [hw0]; exact (((Below.refl _ w).alloc (Nat.le_refl _) _).alloc (by simp) _).alloc (by simp; omega) _)
  have H1 := Lib.hid H0
  clear H0 hw0 hal hmp hmm
  obtain ⟨tb, htb⟩ : ∃ x, w.heap.size + 2 = x := ⟨_, rfl⟩
  obtain ⟨mb, hmb⟩ : ∃ x, w.heap.size + 1 = x := ⟨_, rfl⟩
  rw [htb, hmb] at H1
  rw [htb]
  clear htb hmb
  go_loopw [12] (fun x wr => ∃ (i : Nat) (vs : Value) (rs : List (Raw 6)), x = .int .i64 (i : Int) ∧ i ≤ A.length ∧ Hid (TrB wr w.heap.size tb mb vs rs ((keepL (A.take i)).map (·.name)) (keepL (A.take i))) ∧ Hid (Below w.heap.size w wr)) (fun x _ => A.length - (intOf x).toNat)
  case atStart => exact ⟨0, _, [], rfl, by omega, H1, HB0⟩
  case round =>
    clear H1 HB0
    obtain ⟨i, vs, rs, rfl, hi, HI, HB⟩ := hrel
    by_cases hlt : i < A.length
    · obtain ⟨c, hc⟩ : ∃ c, A[i]? = some c := ⟨_, List.getElem?_eq_getElem hlt⟩
      have hlt' : (i : Int) < (A.length : Int) := by omega
      have i0 : (0 : Int) ≤ (i : Int) := by omega
      have hne : A ≠ [] := by rintro rfl; simp at hlt
      obtain ⟨b, off, rfl, -, -, hBb, hbl, hcells⟩ := HR.out.place hne
      obtain ⟨l, ⟨vi, vf, vm, rfl, k1, k2, k3⟩, hcell⟩ := hcells _ _ hc
      obtain ⟨pi, ci, rfl, -⟩ := k1.len
      obtain ⟨pf, cf, rfl, -⟩ := k2.len
      obtain ⟨pm, cm, rfl, -⟩ := k3.len
      have hcell1 := hcell.below HB.out hbl
      obtain ⟨y0, y1, y2, y3, y4, y5⟩ := hcell1.six
      have hzr := HB.out.size
      replace hbl : b < wr.heap.size := by omega
      have bne : b ≠ wr.heap.size := by omega
      have hmem := List.mem_of_getElem? hc
      have HFC := Lib.hid (HF.out c hmem)
      have hnm : c.name.size ≤ maxLen := (HS.out.2 _ (List.mem_map.2 ⟨c, hmem, rfl⟩)).1
      have hks := ((HS.out.front i).keep)
      have hKl := keepL_len (A.take i)
      rw [List.length_take] at hKl
      have HKN := Lib.hid (keep_take hc)
      obtain ⟨K, hK⟩ : ∃ x, keepL (A.take i) = x := ⟨_, rfl⟩
      rw [hK] at HI hks HKN hKl
      clear hK
      have HKS := Lib.hid hks
      obtain ⟨w2, hw2⟩ : ∃ x, x = wr.alloc (.cells #[.string c.name, .string c.super, .slice pi c.ifaces.length ci, .int .i64 c.kind, .slice pf c.fields.length cf, .slice pm c.methods.length cm] 27) := ⟨_, rfl⟩
      have hb2 : Below wr.heap.size wr w2 := by rw [hw2]; exact below_alR _ _
      have HI2 := Lib.hid (HI.out.below hb2)
      have HB2 := Lib.hid (HB.out.trans (hb2.mono hzr))
      have hz2 : wr.heap.size + 1 ≤ w2.heap.size := by rw [hw2]; simp
      have hX2 : w2.heap[wr.heap.size]? = some (.cells #[.string c.name, .string c.super, .slice pi c.ifaces.length ci, .int .i64 c.kind, .slice pf c.fields.length cf, .slice pm c.methods.length cm] 27 (0, 0)) := by rw [hw2]; exact heap_alloc_new _ _
      have HX2 := Lib.hid hX2
      have K1 := Lib.hid (k1.step (sP.grow _) (ok' := fun b => b < w.heap.size) (fun _ _ hl => hl) (.of_below HB2.out) HB2.out.size)
      have K2 := Lib.hid (k2.step (sP.grow _) (ok' := fun b => b < w.heap.size) (fun _ _ hl => hl) (.of_below HB2.out) HB2.out.size)
      have K3 := Lib.hid (k3.step mP.grow (ok' := fun b => b < w.heap.size) (fun _ _ hl => hl) (.of_below HB2.out) HB2.out.size)
      clear hcells hcell hcell1 hc k1 k2 k3 hne hBb hks hX2 hb2 HI HB hmem
      go_upto_region 5 with fail
      rw [← hw2]
      clear hw2 y0 y1 y2 y3 y4 y5 hbl bne
      obtain ⟨xb, hxb⟩ : ∃ x, wr.heap.size = x := ⟨_, rfl⟩
      rw [hxb] at HX2 hz2 hzr ⊢
      clear hxb
      obtain ⟨xl, xc, xf⟩ := boxN HX2.out
      have x0 := xc 0 _ rfl
      simp only [Nat.zero_add] at x0
      clear xc xf
      cases hkn : knownT (K.map skOf) c.name with
      | true =>
        have HK2 : Hid (keepL (A.take (i + 1)) = K) := Lib.hid (by rw [HKN.out]; unfold keep1; rw [if_pos hkn])
        go_wp2_with fail
        refine (known_t _ tb mb vs K c.name w2 (HI2.out.done HKS.out) hnm).mono ?_
        rw [hkn]
        rintro e w3 ⟨rfl, hb3⟩
        have HI3 := Lib.hid (HI2.out.below hb3)
        have HB3 := Lib.hid (HB2.out.trans (hb3.mono HB2.out.size))
        clear hb3 HI2 HB2
        go_wp2_with fail
        go_roundw
        case rel => exact ⟨i + 1, vs, rs, by go_num, by omega, by rw [HK2.out]; exact HI3, HB3⟩
        case measure => simp [intOf]; omega
      | false =>
        have HK2 : Hid (keepL (A.take (i + 1)) = K ++ [c]) := Lib.hid (by rw [HKN.out]; unfold keep1; rw [if_neg (by rw [hkn]; simp)])
        have HNI := Lib.hid (not_name hkn)
        go_wp2_with fail
        refine (known_t _ tb mb vs K c.name w2 (HI2.out.done HKS.out) hnm).mono ?_
        rw [hkn]
        rintro e w3 ⟨rfl, hb3⟩
        have HI3 := Lib.hid (HI2.out.below hb3)
        have HB3 := Lib.hid (HB2.out.trans (hb3.mono HB2.out.size))
        have HX3 := Lib.hid ((hb3.block _ xl).trans HX2.out)
        have J1 := Lib.hid (K1.out.any (sP.grow _) hb3)
        have J2 := Lib.hid (K2.out.any (sP.grow _) hb3)
        have J3 := Lib.hid (K3.out.any mP.grow hb3)
        have hz3 := hb3.size
        clear hb3 HI2 HB2 HX2 K1 K2 K3 x0
        obtain ⟨vp, vc, hvs, hrl⟩ := HI3.out.len
        subst hvs
        obtain ⟨tl, t0, t1, tz⟩ := HI3.out.cells
        replace xl : xb < w3.heap.size := by omega
        obtain ⟨-, xc, -⟩ := boxN HX3.out
        have x0 := xc 0 _ rfl
        simp only [Nat.zero_add] at x0
        clear xc
        have hm3 := HI3.out.2.2.2.2.2.2.2
        go_wp2_with fail
        obtain ⟨L, hL⟩ : ∃ x, K.map (·.name) = x := ⟨_, rfl⟩
        have hLl : L.length = K.length := by rw [← hL, List.length_map]
        have HLL := Lib.hid hLl
        have HLE := Lib.hid hL
        rw [hL] at HI3 HNI hm3
        clear hL hLl
        have hm4 : Mp w3.drew mb L.length L := hm3.kpt (.of_below (below_drU w3) : Kpt [] w3 w3.drew) (by simp)
        have HI4 := Lib.hid (HI3.out.below (below_drU w3))
        have HB4 := Lib.hid (HB3.out.trans ((below_drU w3).mono HB3.out.size))
        have HX4 := Lib.hid (((below_drU w3).block _ xl).trans HX3.out)
        have G1 := Lib.hid (J1.out.any (sP.grow _) (below_drU w3))
        have G2 := Lib.hid (J2.out.any (sP.grow _) (below_drU w3))
        have G3 := Lib.hid (J3.out.any mP.grow (below_drU w3))
        have hz4 : xb < w3.drew.heap.size := xl
        go_still_tail 11, (by kernel_rfl)
        change wpList _ _ _ _ _ w3.drew
        obtain ⟨w4, hw4⟩ : ∃ x, x = w3.drew := ⟨_, rfl⟩
        rw [← hw4] at hm4 HI4 HB4 HX4 G1 G2 G3 hz4 ⊢
        clear hw4 HI3 HB3 HX3 J1 J2 J3 hm3 tl t0 t1 tz x0 xl
        go_wp2_with (at_mapUpdate; refine wp_store rfl _ _ _ rfl mb L rfl hm4 c.name hnm rfl (by rw [HLL.out]; rfl) HNI.out (by rw [HLL.out]; omega) ?_)
        intro w5 hm5 hg5
        obtain ⟨hI5, k5⟩ := HI4.out.store (L' := L ++ [c.name]) (by simpa using hm5) hg5
        have hxm : xb ≠ mb := by
          rintro rfl
          obtain ⟨es, cl, hmm⟩ := HI4.out.2.2.2.2.2.2.2.map
          rw [HX4.out] at hmm
          cases hmm
        have hX5 := (k5.2 _ hz4 (by simpa using hxm)).trans HX4.out
        have hb5 : Below w.heap.size w4 w5 := k5.below (fun x hx => by rw [List.mem_singleton.1 hx]; exact HI4.out.2.2.1) HB4.out.size
        have HB5 := Lib.hid (HB4.out.trans hb5)
        have hmb := HI4.out.2.2.1
        have kb : ∀ b, b < w.heap.size → b ∉ [mb] := fun b hb => by simp; omega
        have F1 := Lib.hid ((G1.out.step (sP.grow _) (fun _ h _ => h) (.of_kpt k5 kb) k5.size).any (sP.grow _) (below_drU w5))
        have F2 := Lib.hid ((G2.out.step (sP.grow _) (fun _ h _ => h) (.of_kpt k5 kb) k5.size).any (sP.grow _) (below_drU w5))
        have F3 := Lib.hid ((G3.out.step mP.grow (fun _ h _ => h) (.of_kpt k5 kb) k5.size).any mP.grow (below_drU w5))
        have hxl : xb < w5.heap.size := Nat.lt_of_lt_of_le hz4 k5.size
        have hXx := ((below_drU w5).block _ hxl).trans hX5
        have hCx := hI5.below (below_drU w5)
        have hBx := HB5.out.trans ((below_drU w5).mono HB5.out.size)
        have hKb : K.length ≤ 1000 := by omega
        clear hm5 hg5 hI5 k5 hX5 hb5 HI4 HB4 HX4 G1 G2 G3 HB5 hm4 hz4 hxm
        go_wp2_with fail
        obtain ⟨t9, t0, t1, tz⟩ := hCx.cells
        obtain ⟨xl, xc, xf⟩ := boxN hXx
        have x0 := xc 0 _ rfl
        have x1 := xc 1 _ rfl
        have x2 := xc 2 _ rfl
        have x3 := xc 3 _ rfl
        have x4 := xc 4 _ rfl
        have x5 := xc 5 _ rfl
        simp only [Nat.zero_add] at x0 x1 x2 x3 x4 x5
        clear xc xf
        go_region_law (first
          | (refine step_appM inf_cls (shape_raw 6) (by rfl) _ _ (by rfl) w.heap.size _ rs (by rfl) hCc.2.2.2.1 _ 0 1 1 [rX] (by rfl) hsrc.out (by simp <;> omega) hBc ?_; intro v6 w6 ho6 hg6 hl6; obtain ⟨e1, e2, e3, hC6, hB6⟩ := hCc.app hBc hmX.out ho6 hg6 hl6; obtain ⟨pq, nq, cq, hv6⟩ := ho6.slice; subst hv6; have HC6 := Lib.hid hC6; have HB6 := Lib.hid hB6; clear hC6 hB6 ho6 hg6 hl6)
          | (rw [if_pos (by rfl)]; go_simp; go_at_call 20; refine (copyc_t c pi pf pm _ ci _ cf _ cm _ F1.out F2.out F3.out HFC.out.1 HFC.out.2.1 HFC.out.2.2.1 HFC.out.2.2.2).mono ?_; rintro e wx ⟨qi, mi, di, qf, mf, df, qm, mm, dm, rfl, hco, hbx⟩; have hCw := hCx.below hbx; obtain ⟨s9, s0, s1, sz⟩ := hCw.cells; obtain ⟨rX, hsrc0, hcp, hCc, hbz⟩ := hCx.ready hBx.size hco hbx #[.string c.name, .string c.super, .slice qi mi di, .int .i64 c.kind, .slice qf mf df, .slice qm mm dm] rfl; have hmX := Lib.hid hcp; have hsrc := Lib.hid hsrc0; have hBz := hBx.trans (hbz.mono hBx.size); have hBc := hBz.size; have HBz := Lib.hid hBz; obtain ⟨r9, r0, r1, rz⟩ := hCc.cells; clear hcp hco hBz hsrc0 hbz))
        all_goals
          obtain ⟨W7, hW7⟩ : ∃ x, x = w6.setCell ⟨tb, 0, none⟩ (.slice pq nq cq) := ⟨_, rfl⟩
          rw [← hW7] at HC6 HB6 ⊢
          have HBf := Lib.hid (HBz.out.trans HB6.out)
          have HCf : Hid (TrB W7 w.heap.size tb mb (.slice pq nq cq) (rs ++ [rX]) ((keepL (A.take (i + 1))).map (·.name)) (keepL (A.take (i + 1)))) := Lib.hid (by rw [HK2.out, List.map_append, HLE.out]; exact HC6.out)
          clear hW7 HC6 HB6 HBz e1 e2 e3
          go_wp2_with fail
          go_roundw
          case rel => exact ⟨i + 1, _, _, by go_num, by omega, HCf, HBf⟩
          case measure => simp [intOf]; omega
    · have hlt' : ¬ (i : Int) < (A.length : Int) := by omega
      obtain rfl : i = A.length := by omega
      rw [List.take_length] at HI
      go_wp2_with fail
      go_ret
      exact ⟨_, rfl, ⟨_, _, HI.out.done HS.out.keep⟩, HB.out⟩
end Go.Proofs.YtlmpnmnfloeoiaaGreat.R
namespace Go.Proofs.YtlmpnmnfloeoiaaGreat.R
open Go.RowKit Go.Proofs.YtlmpnmnfloeoiaaGreat.D Go.Proofs.YtlmpnmnfloeoiaaGreat.O Go.Proofs.YtlmpnmnfloeoiaaGreat.A
def idxP {α : Type} (p : α → Bool) (l : List α) : Int := match l.findIdx? p with | some k => (k : Int) | none => -1
theorem idx_hit {α : Type} {p : α → Bool} {l : List α} {i : Nat} {x : α} (h : l[i]? = some x) (hp : p x = true) (ha : ∀ j y, j < i → l[j]? = some y → p y = false) : idxP p l = (i : Int) := by
  have : l.findIdx? p = some i := by
    rw [List.findIdx?_eq_some_iff_getElem]
    obtain ⟨hi, rfl⟩ := List.getElem?_eq_some_iff.1 h
    refine ⟨hi, hp, fun j hj => ?_⟩
    have := ha j _ hj (List.getElem?_eq_getElem (by omega))
    simp [this]
  unfold idxP
  rw [this]
theorem idx_miss {α : Type} {p : α → Bool} {l : List α} (ha : ∀ j y, j < l.length → l[j]? = some y → p y = false) : idxP p l = -1 := by
  have : l.findIdx? p = none := by
    rw [List.findIdx?_eq_none_iff]
    intro x hx
    obtain ⟨j, hj, rfl⟩ := List.mem_iff_getElem.1 hx
    exact ha j _ hj (List.getElem?_eq_getElem hj)
  unfold idxP
  rw [this]
theorem idx_find {α : Type} (p : α → Bool) (l : List α) : (l.find? p = none ∧ idxP p l = -1) ∨ ∃ (k : Nat) (x : α), l.find? p = some x ∧ l[k]? = some x ∧ idxP p l = (k : Int) := by
  cases h : l.findIdx? p with
  | none =>
    refine .inl ⟨?_, by unfold idxP; rw [h]⟩
    rw [List.find?_eq_none]
    intro x hx
    have := (List.findIdx?_eq_none_iff.1 h) x hx
    simp [this]
  | some k =>
    obtain ⟨hk, hp, ha⟩ := List.findIdx?_eq_some_iff_getElem.1 h
    refine .inr ⟨k, l[k], ?_, List.getElem?_eq_getElem hk, by unfold idxP; rw [h]⟩
    rw [List.find?_eq_some_iff_getElem]
    exact ⟨hp, k, hk, rfl, fun j hj => by have := ha j hj; simpa using this⟩
theorem idx_any {α : Type} (p : α → Bool) (l : List α) : decide (0 ≤ idxP p l) = l.any p := by
  rcases idx_find p l with ⟨h, e⟩ | ⟨k, x, h, hk, e⟩
  · rw [e]
    have : l.any p = false := by
      rw [List.any_eq_false]
      exact List.find?_eq_none.1 h
    rw [this]; rfl
  · rw [e]
    have : l.any p = true := List.any_eq_true.2 ⟨x, List.mem_of_getElem? hk, List.find?_some h⟩
    rw [this, decide_eq_true (by omega)]
end Go.Proofs.YtlmpnmnfloeoiaaGreat.R
namespace Go.Proofs.YtlmpnmnfloeoiaaGreat.R
open Go.RowKit Go.Proofs.YtlmpnmnfloeoiaaGreat.D Go.Proofs.YtlmpnmnfloeoiaaGreat.O Go.Proofs.YtlmpnmnfloeoiaaGreat.A
def SzM (m : Mth) : Prop := m.params.length ≤ 1000 ∧ (∀ u ∈ m.params, u.2.size ≤ 1000000) ∧ m.ret.2.size ≤ 1000000
theorem rdT_m {ok : Nat → Prop} {w : World} {v : Value} {ts : List Ty} (h : RdX 2 (sP tyC) ok w v ts) : RdT w v ts := by
  obtain ⟨p, cap, rfl, h1, h2, h3⟩ := h
  rcases h3 with rfl | ⟨b, off, rfl, hb, hlt, hc⟩
  · exact ⟨p, cap, rfl, (fun a ha hn => absurd rfl hn), fun _ => rfl, fun a ha i t ht => by simp at ht⟩
  · refine ⟨_, cap, rfl, (fun a ha _ => by cases ha; rfl), (fun h => by cases h), fun a ha i t ht => ?_⟩
    cases ha
    exact CellsAt.two (sP_at (ok := ok) (hc i t ht))
end Go.Proofs.YtlmpnmnfloeoiaaGreat.R
