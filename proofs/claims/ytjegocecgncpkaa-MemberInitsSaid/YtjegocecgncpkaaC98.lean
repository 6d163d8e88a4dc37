/- Texts that the proof is made of, joined. No condition. -/
import Derived.Test.YtjegocecgncpkaaC93
import Derived.Test.YtjegocecgncpkaaC97
import Derived.Test.YtjegocecgncpkaaC96
import Derived.Deep.RegionLaw
import Derived.Deep.RegionHeld3
import Derived.StillTailTactics
import Derived.Test.YtjegocecgncpkaaC91
import Derived.Test.YtjegocecgncpkaaC90
import Derived.Test.YtjegocecgncpkaaC92
import Derived.Deep.LoopGhost
import Derived.Test.YtjegocecgncpkaaC9H
set_option linter.unusedVariables false
set_option linter.unusedSimpArgs false
set_option maxRecDepth 100000
set_option maxHeartbeats 16000000
namespace Go.Proofs.Ytjegocecgncpkaa.R
open Go.RowKit Go.Proofs.Ytjegocecgncpkaa.D Go.Proofs.Ytjegocecgncpkaa.O Go.Proofs.Ytjegocecgncpkaa.A
def FewC (c : Cls) : Prop := c.ifaces.length ≤ 1000000 ∧ c.fields.length ≤ 1000000 ∧ c.methods.length ≤ 1000000 ∧ ∀ m ∈ c.methods, m.params.length ≤ 1000000 ∧ m.code.length ≤ 1000000 ∧ m.hs.length ≤ 1000000
theorem few_find {K : List Cls} (h : ∀ c ∈ K, FewC c) (n : ByteArray) : FewC ((findC K n).getD noC) := by
  unfold findC bltC
  cases bltS n with
  | some s => exact ⟨Nat.zero_le _, Nat.zero_le _, Nat.zero_le _, fun m hm => by cases hm⟩
  | none =>
    cases hc : K.find? (fun c => decide (c.name = n)) with
    | none => exact ⟨Nat.zero_le _, Nat.zero_le _, Nat.zero_le _, fun m hm => by cases hm⟩
    | some c => exact h c (List.mem_of_find?_eq_some hc)
set_option maxHeartbeats 4000000 in
set_option maxRecDepth 100000 in
theorem Class_t (ok : Nat → Prop) (tb mt : Nat) (vs : Value) (K : List Cls) (n : ByteArray) (w : World) (h : TrW w ok tb mt vs K) (hn : n.size ≤ maxLen) (hf : ∀ c ∈ K, FewC c) :
    Calls Try.prog 30 #[.pointer (some ⟨tb, 0, none⟩), .string n] w fun e w' => ∃ pi ni ci pf nf cf pm nm cm, e = .returned (.tuple #[.agg #[.string ((findC K n).getD noC).name, .string ((findC K n).getD noC).super, .slice pi ni ci, .int .i64 ((findC K n).getD noC).kind, .slice pf nf cf, .slice pm nm cm], .bool (findC K n).isSome]) ∧
      cO (fun b => w.heap.size ≤ b) w' [.string ((findC K n).getD noC).name, .string ((findC K n).getD noC).super, .slice pi ni ci, .int .i64 ((findC K n).getD noC).kind, .slice pf nf cf, .slice pm nm cm] ((findC K n).getD noC) ∧ Below w.heap.size w w' := by
  have HT := Lib.hid h
  have HF := Lib.hid (few_find hf n)
  clear h hf
  obtain ⟨w0, hw0⟩ : ∃ x, x = w.alloc (.cells #[.string ⟨#[]⟩, .string ⟨#[]⟩, .slice none 0 0, .int .i64 0, .slice none 0 0, .slice none 0 0] 50) := ⟨_, rfl⟩
  have HB0 : Hid (Below w.heap.size w w0) := Lib.hid (by rw [hw0]; exact below_alR _ _)
  have hs0 : w0.heap.size = w.heap.size + 1 := by rw [hw0]; simp
  have HX0 : Hid (w0.heap[w.heap.size]? = some (.cells #[.string ⟨#[]⟩, .string ⟨#[]⟩, .slice none 0 0, .int .i64 0, .slice none 0 0, .slice none 0 0] 50 (0, 0))) := Lib.hid (by rw [hw0]; exact heap_alloc_new _ _)
  go_enter Try.func30, Try.ntmps30
  go_wp2_with fail
  rw [← hw0]
  clear hw0
  refine (find_t ok tb mt vs K n w0 (HT.out.below HB0.out) hn).mono ?_
  rintro e w1 ⟨pi, ni, ci, pf, nf, cf, pm, nm, cm, rfl, k1, k2, k3, hb1⟩
  obtain ⟨c, hc⟩ : ∃ c, (findC K n).getD noC = c := ⟨_, rfl⟩
  rw [hc] at HF k1 k2 k3 ⊢
  have HC := Lib.hid hc
  clear hc
  obtain ⟨k, hk⟩ : ∃ k, (findC K n).isSome = k := ⟨_, rfl⟩
  rw [hk]
  have HK := Lib.hid hk
  clear hk
  have hX1 := (hb1.block _ (by omega)).trans HX0.out
  have hs1 := hb1.size
  have HB1 := Lib.hid (HB0.out.trans (hb1.mono (by omega)))
  have hb2 := hb1.trans ((below_alR w1 (.cells #[.string c.name, .string c.super, .slice pi ni ci, .int .i64 c.kind, .slice pf nf cf, .slice pm nm cm] 50)).mono hs1)
  have K1 := Lib.hid (k1.any (sP.grow _) hb2)
  have K2 := Lib.hid (k2.any (sP.grow _) hb2)
  have K3 := Lib.hid (k3.any mP.grow hb2)
  have HX1 := Lib.hid hX1
  clear hb1 hb2 HX0 k1 k2 k3 hX1
  go_wp2_with fail
  refine (copyc_t c pi pf pm ni ci nf cf nm cm _ K1.out K2.out K3.out HF.out.1 HF.out.2.1 HF.out.2.2.1 HF.out.2.2.2).mono ?_
  rintro e w3 ⟨qi, mi, di, qf, mf, df, qm, mm, dm, rfl, hco, hb3⟩
  have hX3 : w3.heap[w.heap.size]? = _ := (hb3.block _ (by simp; omega)).trans (((below_alR w1 _).block _ (by omega)).trans HX1.out)
  have hz3 := hb3.size
  simp only [World.size_alloc] at hz3
  have hb3' := HB1.out.trans (((below_alR w1 (.cells #[.string c.name, .string c.super, .slice pi ni ci, .int .i64 c.kind, .slice pf nf cf, .slice pm nm cm] 50)).trans (hb3.mono (by simp))).mono (by omega))
  have HB3 := Lib.hid hb3'
  have HCO := Lib.hid hco
  clear hb3 hb3' hco HX1 K1 K2 K3
  obtain ⟨xl, xc, xf⟩ := boxN hX3
  have x0 := xc 0 _ rfl
  have z0 := xf 0
  have x1 := xc 1 _ rfl
  have z1 := xf 1
  have x2 := xc 2 _ rfl
  have z2 := xf 2
  have x3 := xc 3 _ rfl
  have z3 := xf 3
  have x4 := xc 4 _ rfl
  have z4 := xf 4
  have x5 := xc 5 _ rfl
  have z5 := xf 5
  simp only [Nat.zero_add] at x0 x1 x2 x3 x4 x5
  clear xc xf
  go_wp2_with fail
  have hk := (set6 (v0 := .string c.name) (v1 := .string c.super) (v2 := .slice qi mi di) (v3 := .int .i64 c.kind) (v4 := .slice qf mf df) (v5 := .slice qm mm dm) hX3).2
  refine bodyPost_ret (v := .tuple #[.agg #[.string c.name, .string c.super, .slice qi mi di, .int .i64 c.kind, .slice qf mf df, .slice qm mm dm], .bool k]) (by simp [*, results, Try.results30, go_sem]) rfl ?_
  rw [HC.out, HK.out]
  refine ⟨_, _, _, _, _, _, _, _, _, rfl, ?_, HB3.out.trans (hk.below (fun x hx => by simp at hx; omega) (by omega))⟩
  exact cO.grow _ _ _ _ _ _ HCO.out (fun b hb hl => by simp at hb; omega) (.of_kpt hk (fun b hb => by simp at hb ⊢; omega)) hk.size
end Go.Proofs.Ytjegocecgncpkaa.R
namespace Go.Proofs.Ytjegocecgncpkaa.R
open Go.RowKit Go.Proofs.Ytjegocecgncpkaa.D Go.Proofs.Ytjegocecgncpkaa.O Go.Proofs.Ytjegocecgncpkaa.A
theorem SzT.keep {a : List Cls} (h : SzT (a.map skOf)) : SzT ((keepL a).map skOf) := by
  refine ⟨?_, fun c hc => ?_⟩
  · have h1 := h.1
    have h2 := keepL_len a
    rw [List.length_map] at h1 ⊢
    omega
  · obtain ⟨d, hd, rfl⟩ := List.mem_map.1 hc
    exact h.2 _ (List.mem_map.2 ⟨d, keepL_mem a d hd, rfl⟩)
theorem SzT.front {a : List Cls} (h : SzT (a.map skOf)) (i : Nat) : SzT ((a.take i).map skOf) := by
  refine ⟨?_, fun c hc => ?_⟩
  · have h1 := h.1
    rw [List.length_map] at h1 ⊢
    rw [List.length_take]
    omega
  · obtain ⟨d, hd, rfl⟩ := List.mem_map.1 hc
    exact h.2 _ (List.mem_map.2 ⟨d, List.mem_of_mem_take hd, rfl⟩)
def okR (B tb mb : Nat) (vs : Value) : Nat → Prop := fun b => B ≤ b ∧ b ≠ tb ∧ b ≠ mb ∧ vs.ownBlock ≠ some b
def TrB (w : World) (B tb mb : Nat) (vs : Value) (rs : List (Raw 6)) (L : List ByteArray) (K : List Cls) : Prop :=
  w.heap[tb]? = some (.cells #[vs, .map (some mb)] 61 (0, 0)) ∧ B ≤ tb ∧ B ≤ mb ∧ OwnX 6 50 (sP rawC) w B vs rs ∧ All2 (fun r c => cP (okR B tb mb vs) w (rawC r) c) rs K ∧ vs.ownBlock ≠ some tb ∧ vs.ownBlock ≠ some mb ∧ Mp w mb L.length L
theorem TrB.lt {w : World} {B tb mb : Nat} {vs : Value} {rs : List (Raw 6)} {L : List ByteArray} {K : List Cls} (h : TrB w B tb mb vs rs L K) : tb < w.heap.size ∧ mb < w.heap.size ∧ tb ≠ mb := by
  obtain ⟨h1, _, _, _, _, _, _, h8⟩ := h
  obtain ⟨es, cl, hm⟩ := h8.map
  refine ⟨(Array.getElem?_eq_some_iff.1 h1).1, (Array.getElem?_eq_some_iff.1 hm).1, ?_⟩
  rintro rfl
  rw [h1] at hm
  cases hm
theorem TrB.cells {w : World} {B tb mb : Nat} {vs : Value} {rs : List (Raw 6)} {L : List ByteArray} {K : List Cls} (h : TrB w B tb mb vs rs L K) : tb < w.heap.size ∧ w.cell? ⟨tb, 0, none⟩ = some vs ∧ w.cell? ⟨tb, 1, none⟩ = some (.map (some mb)) ∧ w.frozen? ⟨tb, 0, none⟩ = false := by
  have h3 := h.1
  refine ⟨(Array.getElem?_eq_some_iff.1 h3).1, ?_, ?_, ?_⟩ <;> simp [World.cell?, World.frozen?, h3]
theorem TrB.below {w w' : World} {B tb mb : Nat} {vs : Value} {rs : List (Raw 6)} {L : List ByteArray} {K : List Cls} (h : TrB w B tb mb vs rs L K) (hb : Below w.heap.size w w') : TrB w' B tb mb vs rs L K := by
  have hlt := h.lt
  obtain ⟨h1, h2, h3, h4, h5, h6, h7, h8⟩ := h
  exact ⟨(hb.block _ hlt.1).trans h1, h2, h3, h4.kptS (.of_below hb : Kpt [] w w') (fun _ _ => by simp), h5.imp (fun r c h => cP.grow _ _ _ _ _ _ h (fun _ h _ => h) (.of_below hb) hb.size), h6, h7, h8.kpt (.of_below hb : Kpt [] w w') (by simp)⟩
theorem TrB.store {w w' : World} {B tb mb : Nat} {vs : Value} {rs : List (Raw 6)} {L L' : List ByteArray} {K : List Cls} (h : TrB w B tb mb vs rs L K) (hm : Mp w' mb L'.length L') (hg : w.grownBy w' (some mb)) : TrB w' B tb mb vs rs L' K ∧ Kpt [mb] w w' := by
  have hlt := h.lt
  obtain ⟨h1, h2, h3, h4, h5, h6, h7, h8⟩ := h
  have k : Kpt [mb] w w' := .of_grown hg (fun g e => by cases e; exact .inl (by simp))
  exact ⟨⟨(k.2 _ hlt.1 (by simpa using hlt.2.2)).trans h1, h2, h3, h4.kptS k (fun g e => by simp; rintro rfl; exact h7 e), h5.imp (fun r c h => cP.grow _ _ _ _ _ _ h (fun _ h _ => h) (.of_kpt k (fun b hb => by simpa using hb.2.2.1)) k.size), h6, h7, hm⟩, k⟩
theorem TrB.app {w w1 : World} {B tb mb : Nat} {vs v' : Value} {rs : List (Raw 6)} {L : List ByteArray} {K : List Cls} {rX : Raw 6} {c : Cls} (h : TrB w B tb mb vs rs L K) (hB : B ≤ w.heap.size) (hm : cP (okR B tb mb vs) w (rawC rX) c) (ho : OwnX 6 50 (sP rawC) w1 B v' (rs ++ [rX])) (hg : w.grownBy w1 vs.ownBlock) (hl : v'.ownBlock = vs.ownBlock ∨ v'.ownBlock = some w.heap.size) :
    tb < w1.heap.size ∧ w1.cell? ⟨tb, 0, none⟩ = some vs ∧ w1.frozen? ⟨tb, 0, none⟩ = false ∧ TrB (w1.setCell ⟨tb, 0, none⟩ v') B tb mb v' (rs ++ [rX]) L (K ++ [c]) ∧ Below B w (w1.setCell ⟨tb, 0, none⟩ v') := by
  have hlt := h.lt
  obtain ⟨h1, h2, h3, h4, h5, h6, h7, h8⟩ := h
  have hw1 : w1.heap[tb]? = some (.cells #[vs, .map (some mb)] 61 (0, 0)) := by rw [hg.block tb hlt.1 (fun e => h6 e.symm)]; exact h1
  have k1 : Kpt vs.ownBlock.toList w w1 := .of_grown hg (fun g e => .inl (by rw [e]; simp))
  have k2 : Kpt [tb] w1 (w1.setCell ⟨tb, 0, none⟩ v') := Kpt.set _ _ _ _ _ (by simp)
  have hne : ∀ {x : Nat}, x < w.heap.size → vs.ownBlock ≠ some x → v'.ownBlock ≠ some x := fun {x} hx hv => by
    rcases hl with e | e
    · rw [e]; exact hv
    · rw [e]; simp only [ne_eq, Option.some.injEq]; omega
  have kk : Keeps (okR B tb mb vs) w (w1.setCell ⟨tb, 0, none⟩ v') := fun b hb hlb => by
    rw [k2.2 b (Nat.lt_of_lt_of_le hlb hg.size) (by simpa using hb.2.1), k1.2 b hlb (by simpa using fun e => hb.2.2.2 e)]
  have hoo : ∀ b, okR B tb mb vs b → b < w.heap.size → okR B tb mb v' b := fun b hb hlb => ⟨hb.1, hb.2.1, hb.2.2.1, hne hlb hb.2.2.2⟩
  have hsz : w.heap.size ≤ (w1.setCell ⟨tb, 0, none⟩ v').heap.size := Nat.le_trans hg.size k2.size
  refine ⟨Nat.lt_of_lt_of_le hlt.1 hg.size, by simp [World.cell?, hw1], by simp [World.frozen?, hw1], ⟨?_, h2, h3, ho.kptS k2 (fun g e => by simp; rintro rfl; exact hne hlt.1 h6 e), ?_, hne hlt.1 h6, hne hlt.2.1 h7, (h8.kpt k1 (by simpa using h7)).kpt k2 (by simpa using hlt.2.2.symm)⟩, ?_⟩
  · rw [heap_setCell_same w1 tb 0 _ _ _ hw1]; rfl
  · exact (h5.imp (fun r x h => cP.grow _ _ _ _ _ _ h hoo kk hsz)).app ⟨cP.grow _ _ _ _ _ _ hm hoo kk hsz, trivial⟩
  · have b1 : Below B w w1 := ⟨hg.os, hg.tape, hg.output, hg.size, fun k hk => hg.block k (by omega) (fun e => by have := (h4.lt k e.symm).1; omega)⟩
    exact b1.trans (k2.below (fun x hx => by simp at hx; omega) (Nat.le_trans hB hg.size))
theorem TrB.done {w : World} {B tb mb : Nat} {vs : Value} {rs : List (Raw 6)} {K : List Cls} (h : TrB w B tb mb vs rs (K.map (·.name)) K) (hs : SzT (K.map skOf)) : TrW w (fun b => B ≤ b) tb mb vs K := by
  obtain ⟨h1, h2, h3, h4, h5, h6, h7, h8⟩ := h
  rw [List.length_map] at h8
  exact ⟨h2, h3, h1, (h4.rd (sP.grow _)).raw (h5.imp (fun r x h => cP.grow _ _ _ _ _ _ h (fun b hb _ => hb.1) (fun _ _ _ => rfl) (Nat.le_refl _))), h8, hs⟩
theorem TrB.ready {W wx : World} {B tb mb : Nat} {vs : Value} {rs : List (Raw 6)} {L : List ByteArray} {K : List Cls} (h : TrB W B tb mb vs rs L K) (hB : B ≤ W.heap.size) {l : List Value} {c : Cls} (hco : cO (fun b => W.heap.size ≤ b) wx l c) (hbx : Below W.heap.size W wx) (lit : Array Value) (hlit : lit.toList = l) :
    ∃ rX : Raw 6, RdX 6 (sP rawC) anyB (wx.alloc (.cells lit 50)) (.slice (some ⟨wx.heap.size, 0, none⟩) 1 1) [rX] ∧ cP (okR B tb mb vs) (wx.alloc (.cells lit 50)) (rawC rX) c ∧ TrB (wx.alloc (.cells lit 50)) B tb mb vs rs L K ∧ Below W.heap.size W (wx.alloc (.cells lit 50)) := by
  have hb := below_alR wx (.cells lit 50)
  have hlt := h.lt
  have hown := h.2.2.2.1.lt
  refine ⟨⟨l, shape_cO _ _ _ _ hco⟩, rdX_lit1 rawC_len wx (⟨l, shape_cO _ _ _ _ hco⟩ : Raw 6) _ _ hlit, ?_, (h.below hbx).below hb, hbx.trans (hb.mono hbx.size)⟩
  refine cP.grow _ _ _ _ _ _ hco.rd (fun b (hb : W.heap.size ≤ b) _ => ⟨Nat.le_trans hB hb, by omega, by omega, fun e => ?_⟩) (.of_below hb) hb.size
  have := (hown b e).2
  omega
theorem TrB.len {w : World} {B tb mb : Nat} {vs : Value} {rs : List (Raw 6)} {L : List ByteArray} {K : List Cls} (h : TrB w B tb mb vs rs L K) : ∃ p c, vs = .slice p K.length c ∧ rs.length = K.length := by
  obtain ⟨p, c, e, _⟩ := (h.2.2.2.1.rd (sP.grow _)).len
  have hl := h.2.2.2.2.1.len
  rw [hl] at e
  exact ⟨p, c, e, hl⟩
set_option maxHeartbeats 4000000 in
set_option maxRecDepth 100000 in
theorem New_t (A : List Cls) (p : Option Addr) (cap : Nat) (ok : Nat → Prop) (w : World) (hr : RdX 6 cP ok w (.slice p A.length cap) A) (hs : SzT (A.map skOf)) (hf : ∀ c ∈ A, FewC c) :
    Calls Try.prog 9 #[.agg #[.slice p A.length cap]] w fun e w' => ∃ tb mb vs, e = .returned (.pointer (some ⟨tb, 0, none⟩)) ∧ TrW w' (fun b => w.heap.size ≤ b) tb mb vs (keepL A) ∧ Below w.heap.size w w' := by
  have HR := Lib.hid hr
  have HS := Lib.hid hs
  have HF := Lib.hid hf
  have hAl : A.length ≤ 1000 := by have := hs.1; rwa [List.length_map] at this
  have hcap : A.length ≤ cap := by obtain ⟨_, _, e, h, _⟩ := hr; simp only [Value.slice.injEq] at e; rw [e.2.2]; exact h
  clear hr hs hf
  have hmm := @run_makeMap Try.prog
  go_enter Try.func9, Try.ntmps9
  go_wp2_with fail
  have hal := heap_alloc_new ((w.alloc (.cells #[.slice p A.length cap] 28)).alloc (.map #[] 0)) (.cells #[.slice none 0 0, .map (some (w.heap.size + 1))] 61)
  have hmp := Mp.made (w.alloc (.cells #[.slice p A.length cap] 28))
  rw [World.size_alloc, World.size_alloc] at hal
  rw [World.size_alloc] at hmp
  have H0 : TrB (((w.alloc (.cells #[.slice p A.length cap] 28)).alloc (.map #[] 0)).alloc (.cells #[.slice none 0 0, .map (some (w.heap.size + 1))] 61)) w.heap.size (w.heap.size + 2) (w.heap.size + 1) (.slice none 0 0) [] [] [] := ⟨hal, by omega, by omega, OwnX.nil _ _ _ _ _, trivial, by simp [Value.ownBlock], by simp [Value.ownBlock], hmp.kpt (Kpt.alloc [] _ _) (by simp)⟩
  obtain ⟨w0, hw0⟩ : ∃ x, x = (((w.alloc (.cells #[.slice p A.length cap] 28)).alloc (.map #[] 0)).alloc (.cells #[.slice none 0 0, .map (some (w.heap.size + 1))] 61)) := ⟨_, rfl⟩
  rw [← hw0] at H0 ⊢
  have HB0 : Hid (Below w.heap.size w w0) := Lib.hid (by rw [hw0]; exact (((Below.refl _ w).alloc (Nat.le_refl _) _).alloc (by simp) _).alloc (by simp; omega) _)
  have H1 := Lib.hid H0
  clear H0 hw0 hal hmp hmm
  obtain ⟨tb, htb⟩ : ∃ x, w.heap.size + 2 = x := ⟨_, rfl⟩
  obtain ⟨mb, hmb⟩ : ∃ x, w.heap.size + 1 = x := ⟨_, rfl⟩
  rw [htb, hmb] at H1
  rw [htb]
  clear htb hmb
  go_loopw [12] (fun x wr => ∃ (i : Nat) (vs : Value) (rs : List (Raw 6)), x = .int .i64 (i : Int) ∧ i ≤ A.length ∧ Hid (TrB wr w.heap.size tb mb vs rs ((keepL (A.take i)).map (·.name)) (keepL (A.take i))) ∧ Hid (Below w.heap.size w wr)) (fun x _ => A.length - (intOf x).toNat)
  case atStart => exact ⟨0, _, [], rfl, by omega, H1, HB0⟩
  case round =>
    clear H1 HB0
    obtain ⟨i, vs, rs, rfl, hi, HI, HB⟩ := hrel
    by_cases hlt : i < A.length
    · obtain ⟨c, hc⟩ : ∃ c, A[i]? = some c := ⟨_, List.getElem?_eq_getElem hlt⟩
      have hlt' : (i : Int) < (A.length : Int) := by omega
      have i0 : (0 : Int) ≤ (i : Int) := by omega
      have hne : A ≠ [] := by rintro rfl; simp at hlt
      obtain ⟨b, off, rfl, -, -, hBb, hbl, hcells⟩ := HR.out.place hne
      obtain ⟨l, ⟨vi, vf, vm, rfl, k1, k2, k3⟩, hcell⟩ := hcells _ _ hc
      obtain ⟨pi, ci, rfl, -⟩ := k1.len
      obtain ⟨pf, cf, rfl, -⟩ := k2.len
      obtain ⟨pm, cm, rfl, -⟩ := k3.len
      have hcell1 := hcell.below HB.out hbl
      obtain ⟨y0, y1, y2, y3, y4, y5⟩ := hcell1.six
      have hzr := HB.out.size
      replace hbl : b < wr.heap.size := by omega
      have bne : b ≠ wr.heap.size := by omega
      have hmem := List.mem_of_getElem? hc
      have HFC := Lib.hid (HF.out c hmem)
      have hnm : c.name.size ≤ maxLen := (HS.out.2 _ (List.mem_map.2 ⟨c, hmem, rfl⟩)).1
      have hks := ((HS.out.front i).keep)
      have hKl := keepL_len (A.take i)
      rw [List.length_take] at hKl
      have HKN := Lib.hid (keep_take hc)
      obtain ⟨K, hK⟩ : ∃ x, keepL (A.take i) = x := ⟨_, rfl⟩
      rw [hK] at HI hks HKN hKl
      clear hK
      have HKS := Lib.hid hks
      obtain ⟨w2, hw2⟩ : ∃ x, x = wr.alloc (.cells #[.string c.name, .string c.super, .slice pi c.ifaces.length ci, .int .i64 c.kind, .slice pf c.fields.length cf, .slice pm c.methods.length cm] 50) := ⟨_, rfl⟩
      have hb2 : Below wr.heap.size wr w2 := by rw [hw2]; exact below_alR _ _
      have HI2 := Lib.hid (HI.out.below hb2)
      have HB2 := Lib.hid (HB.out.trans (hb2.mono hzr))
      have hz2 : wr.heap.size + 1 ≤ w2.heap.size := by rw [hw2]; simp
      have hX2 : w2.heap[wr.heap.size]? = some (.cells #[.string c.name, .string c.super, .slice pi c.ifaces.length ci, .int .i64 c.kind, .slice pf c.fields.length cf, .slice pm c.methods.length cm] 50 (0, 0)) := by rw [hw2]; exact heap_alloc_new _ _
      have HX2 := Lib.hid hX2
      have K1 := Lib.hid (k1.step (sP.grow _) (ok' := fun b => b < w.heap.size) (fun _ _ hl => hl) (.of_below HB2.out) HB2.out.size)
      have K2 := Lib.hid (k2.step (sP.grow _) (ok' := fun b => b < w.heap.size) (fun _ _ hl => hl) (.of_below HB2.out) HB2.out.size)
      have K3 := Lib.hid (k3.step mP.grow (ok' := fun b => b < w.heap.size) (fun _ _ hl => hl) (.of_below HB2.out) HB2.out.size)
      clear hcells hcell hcell1 hc k1 k2 k3 hne hBb hks hX2 hb2 HI HB hmem
      go_upto_region 5 with fail
      rw [← hw2]
      clear hw2 y0 y1 y2 y3 y4 y5 hbl bne
      obtain ⟨xb, hxb⟩ : ∃ x, wr.heap.size = x := ⟨_, rfl⟩
      rw [hxb] at HX2 hz2 hzr ⊢
      clear hxb
      obtain ⟨xl, xc, xf⟩ := boxN HX2.out
      have x0 := xc 0 _ rfl
      simp only [Nat.zero_add] at x0
      clear xc xf
      cases hkn : knownT (K.map skOf) c.name with
      | true =>
        have HK2 : Hid (keepL (A.take (i + 1)) = K) := Lib.hid (by rw [HKN.out]; unfold keep1; rw [if_pos hkn])
        go_wp2_with fail
        refine (known_t _ tb mb vs K c.name w2 (HI2.out.done HKS.out) hnm).mono ?_
        rw [hkn]
        rintro e w3 ⟨rfl, hb3⟩
        have HI3 := Lib.hid (HI2.out.below hb3)
        have HB3 := Lib.hid (HB2.out.trans (hb3.mono HB2.out.size))
        clear hb3 HI2 HB2
        go_wp2_with fail
        go_roundw
        case rel => exact ⟨i + 1, vs, rs, by go_num, by omega, by rw [HK2.out]; exact HI3, HB3⟩
        case measure => simp [intOf]; omega
      | false =>
        have HK2 : Hid (keepL (A.take (i + 1)) = K ++ [c]) := Lib.hid (by rw [HKN.out]; unfold keep1; rw [if_neg (by rw [hkn]; simp)])
        have HNI := Lib.hid (not_name hkn)
        go_wp2_with fail
        refine (known_t _ tb mb vs K c.name w2 (HI2.out.done HKS.out) hnm).mono ?_
        rw [hkn]
        rintro e w3 ⟨rfl, hb3⟩
        have HI3 := Lib.hid (HI2.out.below hb3)
        have HB3 := Lib.hid (HB2.out.trans (hb3.mono HB2.out.size))
        have HX3 := Lib.hid ((hb3.block _ xl).trans HX2.out)
        have J1 := Lib.hid (K1.out.any (sP.grow _) hb3)
        have J2 := Lib.hid (K2.out.any (sP.grow _) hb3)
        have J3 := Lib.hid (K3.out.any mP.grow hb3)
        have hz3 := hb3.size
        clear hb3 HI2 HB2 HX2 K1 K2 K3 x0
        obtain ⟨vp, vc, hvs, hrl⟩ := HI3.out.len
        subst hvs
        obtain ⟨tl, t0, t1, tz⟩ := HI3.out.cells
        replace xl : xb < w3.heap.size := by omega
        obtain ⟨-, xc, -⟩ := boxN HX3.out
        have x0 := xc 0 _ rfl
        simp only [Nat.zero_add] at x0
        clear xc
        have hm3 := HI3.out.2.2.2.2.2.2.2
        go_wp2_with fail
        obtain ⟨L, hL⟩ : ∃ x, K.map (·.name) = x := ⟨_, rfl⟩
        have hLl : L.length = K.length := by rw [← hL, List.length_map]
        have HLL := Lib.hid hLl
        have HLE := Lib.hid hL
        rw [hL] at HI3 HNI hm3
        clear hL hLl
        have hm4 : Mp w3.drew mb L.length L := hm3.kpt (.of_below (below_drU w3) : Kpt [] w3 w3.drew) (by simp)
        have HI4 := Lib.hid (HI3.out.below (below_drU w3))
        have HB4 := Lib.hid (HB3.out.trans ((below_drU w3).mono HB3.out.size))
        have HX4 := Lib.hid (((below_drU w3).block _ xl).trans HX3.out)
        have G1 := Lib.hid (J1.out.any (sP.grow _) (below_drU w3))
        have G2 := Lib.hid (J2.out.any (sP.grow _) (below_drU w3))
        have G3 := Lib.hid (J3.out.any mP.grow (below_drU w3))
        have hz4 : xb < w3.drew.heap.size := xl
        go_still_tail 11, (by kernel_rfl)
        change wpList _ _ _ _ _ w3.drew
        obtain ⟨w4, hw4⟩ : ∃ x, x = w3.drew := ⟨_, rfl⟩
        rw [← hw4] at hm4 HI4 HB4 HX4 G1 G2 G3 hz4 ⊢
        clear hw4 HI3 HB3 HX3 J1 J2 J3 hm3 tl t0 t1 tz x0 xl
        go_wp2_with (at_mapUpdate; refine wp_store rfl _ _ _ rfl mb L rfl hm4 c.name hnm rfl (by rw [HLL.out]; rfl) HNI.out (by rw [HLL.out]; omega) ?_)
        intro w5 hm5 hg5
        obtain ⟨hI5, k5⟩ := HI4.out.store (L' := L ++ [c.name]) (by simpa using hm5) hg5
        have hxm : xb ≠ mb := by
          rintro rfl
          obtain ⟨es, cl, hmm⟩ := HI4.out.2.2.2.2.2.2.2.map
          rw [HX4.out] at hmm
          cases hmm
        have hX5 := (k5.2 _ hz4 (by simpa using hxm)).trans HX4.out
        have hb5 : Below w.heap.size w4 w5 := k5.below (fun x hx => by rw [List.mem_singleton.1 hx]; exact HI4.out.2.2.1) HB4.out.size
        have HB5 := Lib.hid (HB4.out.trans hb5)
        have hmb := HI4.out.2.2.1
        have kb : ∀ b, b < w.heap.size → b ∉ [mb] := fun b hb => by simp; omega
        have F1 := Lib.hid ((G1.out.step (sP.grow _) (fun _ h _ => h) (.of_kpt k5 kb) k5.size).any (sP.grow _) (below_drU w5))
        have F2 := Lib.hid ((G2.out.step (sP.grow _) (fun _ h _ => h) (.of_kpt k5 kb) k5.size).any (sP.grow _) (below_drU w5))
        have F3 := Lib.hid ((G3.out.step mP.grow (fun _ h _ => h) (.of_kpt k5 kb) k5.size).any mP.grow (below_drU w5))
        have hxl : xb < w5.heap.size := Nat.lt_of_lt_of_le hz4 k5.size
        have hXx := ((below_drU w5).block _ hxl).trans hX5
        have hCx := hI5.below (below_drU w5)
        have hBx := HB5.out.trans ((below_drU w5).mono HB5.out.size)
        have hKb : K.length ≤ 1000 := by omega
        clear hm5 hg5 hI5 k5 hX5 hb5 HI4 HB4 HX4 G1 G2 G3 HB5 hm4 hz4 hxm
        go_wp2_with fail
        obtain ⟨t9, t0, t1, tz⟩ := hCx.cells
        obtain ⟨xl, xc, xf⟩ := boxN hXx
        have x0 := xc 0 _ rfl
        have x1 := xc 1 _ rfl
        have x2 := xc 2 _ rfl
        have x3 := xc 3 _ rfl
        have x4 := xc 4 _ rfl
        have x5 := xc 5 _ rfl
        simp only [Nat.zero_add] at x0 x1 x2 x3 x4 x5
        clear xc xf
        go_region_law (first
          | (refine step_appM inf_cls (shape_raw 6) (by rfl) _ _ (by rfl) w.heap.size _ rs (by rfl) hCc.2.2.2.1 _ 0 1 1 [rX] (by rfl) hsrc.out (by simp <;> omega) hBc ?_; intro v6 w6 ho6 hg6 hl6; obtain ⟨e1, e2, e3, hC6, hB6⟩ := hCc.app hBc hmX.out ho6 hg6 hl6; obtain ⟨pq, nq, cq, hv6⟩ := ho6.slice; subst hv6; have HC6 := Lib.hid hC6; have HB6 := Lib.hid hB6; clear hC6 hB6 ho6 hg6 hl6)
          | (rw [if_pos (by rfl)]; go_simp; go_at_call 19; refine (copyc_t c pi pf pm _ ci _ cf _ cm _ F1.out F2.out F3.out HFC.out.1 HFC.out.2.1 HFC.out.2.2.1 HFC.out.2.2.2).mono ?_; rintro e wx ⟨qi, mi, di, qf, mf, df, qm, mm, dm, rfl, hco, hbx⟩; have hCw := hCx.below hbx; obtain ⟨s9, s0, s1, sz⟩ := hCw.cells; obtain ⟨rX, hsrc0, hcp, hCc, hbz⟩ := hCx.ready hBx.size hco hbx #[.string c.name, .string c.super, .slice qi mi di, .int .i64 c.kind, .slice qf mf df, .slice qm mm dm] rfl; have hmX := Lib.hid hcp; have hsrc := Lib.hid hsrc0; have hBz := hBx.trans (hbz.mono hBx.size); have hBc := hBz.size; have HBz := Lib.hid hBz; obtain ⟨r9, r0, r1, rz⟩ := hCc.cells; clear hcp hco hBz hsrc0 hbz))
        all_goals
          obtain ⟨W7, hW7⟩ : ∃ x, x = w6.setCell ⟨tb, 0, none⟩ (.slice pq nq cq) := ⟨_, rfl⟩
          rw [← hW7] at HC6 HB6 ⊢
          have HBf := Lib.hid (HBz.out.trans HB6.out)
          have HCf : Hid (TrB W7 w.heap.size tb mb (.slice pq nq cq) (rs ++ [rX]) ((keepL (A.take (i + 1))).map (·.name)) (keepL (A.take (i + 1)))) := Lib.hid (by rw [HK2.out, List.map_append, HLE.out]; exact HC6.out)
          clear hW7 HC6 HB6 HBz e1 e2 e3
          go_wp2_with fail
          go_roundw
          case rel => exact ⟨i + 1, _, _, by go_num, by omega, HCf, HBf⟩
          case measure => simp [intOf]; omega
    · have hlt' : ¬ (i : Int) < (A.length : Int) := by omega
      obtain rfl : i = A.length := by omega
      rw [List.take_length] at HI
      go_wp2_with fail
      go_ret
      exact ⟨_, rfl, ⟨_, _, HI.out.done HS.out.keep⟩, HB.out⟩
end Go.Proofs.Ytjegocecgncpkaa.R
namespace Go.Proofs.Ytjegocecgncpkaa.R
open Go.RowKit Go.Proofs.Ytjegocecgncpkaa.D Go.Proofs.Ytjegocecgncpkaa.O Go.Proofs.Ytjegocecgncpkaa.A
def tabT (b3 b6 b2 : Bool) : List Sk :=
  (fun a : List Sk => if b2 then a.reverse else a)
  [(⟨#[77, 97, 105, 110]⟩, ⟨#[79, 98, 106, 101, 99, 116]⟩, 1, []), (⟨#[73]⟩, ⟨#[79, 98, 106, 101, 99, 116]⟩, 4, []), (⟨#[74]⟩, ⟨#[79, 98, 106, 101, 99, 116]⟩, 4, [⟨#[73]⟩]), (⟨#[66, 97, 115, 101]⟩, ⟨#[79, 98, 106, 101, 99, 116]⟩, 2, [⟨#[73]⟩]), (⟨#[65]⟩, ⟨#[66, 97, 115, 101]⟩, 1, []), (⟨#[66]⟩, ⟨#[65]⟩, if b3 then 3 else 1, []), (⟨#[77, 105, 100]⟩, ⟨#[66, 97, 115, 101]⟩, 2, whenS b6 [⟨#[74]⟩]), (⟨#[67]⟩, ⟨#[77, 105, 100]⟩, 1, []), (⟨#[68]⟩, ⟨#[66, 97, 115, 101]⟩, 3, [⟨#[74]⟩]), (⟨#[69, 114, 114]⟩, ⟨#[70, 97, 117, 108, 116]⟩, 1, []), (⟨#[69, 114, 114, 50]⟩, ⟨#[69, 114, 114]⟩, 1, []), (⟨#[71, 111, 110, 101]⟩, ⟨#[65]⟩, 1, []), (⟨#[85, 116, 105, 108]⟩, ⟨#[79, 98, 106, 101, 99, 116]⟩, 1, [])]
theorem seat_sk (k0 k1 k2 k3 : Nat) : (archS k0 k1 k2 k3 [] []).map skOf = tabT (bitS k0 3) (bitS k0 6) (bitS k2 2) := by
  unfold archS familyS tabT
  cases bitS k0 3 <;> cases bitS k0 6 <;> cases bitS k2 2 <;> rfl
theorem keep_sk : ∀ l : List Cls, (keepL l).map skOf = l.foldl (fun T c => if knownT T c.name = true then T else T ++ [skOf c]) [] := fun l => S.rev_ind (P := fun l => (keepL l).map skOf = l.foldl (fun T c => if knownT T c.name = true then T else T ++ [skOf c]) []) rfl (fun l c h => by
  rw [keepL_snoc, List.foldl_append]
  show (keep1 (keepL l) c).map skOf = if knownT _ c.name = true then _ else _
  rw [← h]
  unfold keep1
  split <;> simp) l
theorem keep_sk2 (l : List Cls) : (keepL l).map skOf = (l.map skOf).foldl (fun T c => if knownT T c.1 = true then T else T ++ [c]) [] := by rw [keep_sk, List.foldl_map]; rfl
theorem tab_keep (b3 b6 b2 : Bool) : (tabT b3 b6 b2).foldl (fun T c => if knownT T c.1 = true then T else T ++ [c]) [] = tabT b3 b6 b2 := by
  cases b3 <;> cases b6 <;> cases b2 <;> decide +kernel
theorem seat_kept (k0 k1 k2 k3 : Nat) : (keepL (archS k0 k1 k2 k3 [] [])).map skOf = tabT (bitS k0 3) (bitS k0 6) (bitS k2 2) := by rw [keep_sk2, seat_sk, tab_keep]
theorem szT_small {T : List Sk} (h : (decide (T.length ≤ 1000) && T.all fun c => decide (c.1.size ≤ 1000) && decide (c.2.1.size ≤ 1000) && decide (c.2.2.2.length ≤ 100) && c.2.2.2.all fun i => decide (i.size ≤ 1000)) = true) : SzT T := by
  simp only [Bool.and_eq_true, decide_eq_true_eq, List.all_eq_true] at h
  have hm : 1000 ≤ maxLen := by unfold maxLen; omega
  refine ⟨h.1, fun c hc => ?_⟩
  obtain ⟨⟨⟨h1, h2⟩, h3⟩, h4⟩ := h.2 c hc
  exact ⟨Nat.le_trans h1 hm, Nat.le_trans h2 hm, h3, fun i hi => Nat.le_trans (h4 i hi) hm⟩
theorem tab_sz (b3 b6 b2 : Bool) : SzT (tabT b3 b6 b2) := szT_small (by cases b3 <;> cases b6 <;> cases b2 <;> decide +kernel)
theorem seat_sz8 (k0 k1 k2 k3 : Nat) : SzT ((archS k0 k1 k2 k3 [] []).map skOf) := by rw [seat_sk]; exact tab_sz _ _ _
end Go.Proofs.Ytjegocecgncpkaa.R
namespace Go.Proofs.Ytjegocecgncpkaa.R
open Go.RowKit Go.Proofs.Ytjegocecgncpkaa.D Go.Proofs.Ytjegocecgncpkaa.O Go.Proofs.Ytjegocecgncpkaa.A
def FewM (m : Mth) : Prop := m.params.length ≤ 1000000 ∧ m.code.length ≤ 1000000 ∧ m.hs.length ≤ 1000000
theorem when_all {α : Type} {P : α → Prop} {b : Bool} {l : List α} (h : ∀ m ∈ l, P m) : ∀ m ∈ whenS b l, P m := fun m hm => by
  unfold whenS at hm
  split at hm
  · exact h m hm
  · cases hm
theorem app_all {α : Type} {P : α → Prop} {a b : List α} (h : ∀ m ∈ a, P m) (k : ∀ m ∈ b, P m) : ∀ m ∈ a ++ b, P m := fun m hm => (List.mem_append.1 hm).elim (h m) (k m)
theorem one_all {α : Type} {P : α → Prop} {a : α} {l : List α} (h : P a) (k : ∀ m ∈ l, P m) : ∀ m ∈ a :: l, P m := fun m hm => (List.mem_cons.1 hm).elim (fun e => e ▸ h) (k m)
theorem nil_all {α : Type} {P : α → Prop} : ∀ m ∈ ([] : List α), P m := fun m hm => by cases hm
theorem when_len {α : Type} (b : Bool) (l : List α) : (whenS b l).length ≤ l.length := by unfold whenS; split <;> simp
theorem mth_few {n : ByteArray} {ps : List Ty} {r : Ty} {st : Bool} {lo : Int} {code : List Ins} (h : ps.length ≤ 100) (k : code.length ≤ 100) : FewM (mthS n ps r st lo code) := ⟨Nat.le_trans h (by decide), Nat.le_trans k (by decide), Nat.zero_le _⟩
theorem run_few (c : ByteArray) (n : Nat) : FewM (runS c n) := mth_few (by simp) (by split <;> (try split) <;> simp)
theorem abs_few : FewM absS := ⟨Nat.zero_le _, Nat.zero_le _, Nat.zero_le _⟩
theorem clinit_few (s : ByteArray) : FewM (clinitS s) := mth_few (by simp) (by simp)
theorem rev_all {b : Bool} {P : Cls → Prop} {a : List Cls} (h : ∀ c ∈ a, P c) : ∀ c ∈ (fun a : Arch => if b then a.reverse else a) a, P c := fun c hc => by
  dsimp only at hc
  split at hc
  · exact h c (List.mem_reverse.1 hc)
  · exact h c hc
theorem few_cls {c : Cls} (h1 : c.ifaces.length ≤ 100) (h2 : c.fields.length ≤ 100) (h3 : c.methods.length ≤ 100) (h4 : ∀ m ∈ c.methods, FewM m) : FewC c := ⟨Nat.le_trans h1 (by decide), Nat.le_trans h2 (by decide), Nat.le_trans h3 (by decide), h4⟩
theorem util_few (k : Nat) : FewC (utilS k) := by
  refine few_cls (by simp [utilS]) (by simp [utilS]) ?_ ?_
  · unfold utilS
    dsimp only
    rw [List.length_append]
    (repeat' split) <;> simp
  · refine app_all ?_ (by split; exact one_all (clinit_few _) nil_all; exact nil_all)
    refine one_all (mth_few (by simp) (by simp)) (one_all (mth_few (by simp) (by simp)) (one_all (mth_few (by simp) (by simp)) (one_all (mth_few (by simp) (by simp)) (one_all (mth_few (by simp) (by simp)) (one_all (mth_few (by simp) (by simp)) (one_all (mth_few (by simp) (by simp)) (one_all (mth_few (by simp) (by split <;> simp)) (one_all (mth_few (by simp) (by simp)) nil_all))))))))
theorem len2 {α : Type} {a b : List α} {n m : Nat} (h : a.length ≤ n) (k : b.length ≤ m) : (a ++ b).length ≤ n + m := by rw [List.length_append]; omega
theorem seat_few (k0 k1 k2 k3 : Nat) : ∀ c ∈ archS k0 k1 k2 k3 [] [], FewC c := by
  unfold archS
  refine rev_all ?_
  refine app_all (app_all ?_ ?_) ?_
  · refine one_all (few_cls (by simp [mainS]) (by simp [mainS]) (Nat.le_trans (len2 (n := 2) (by simp) (when_len _ _)) (by simp)) (app_all (one_all ⟨by simp, by simp [bodyS, bAdd, roundsS], by simp [bodyS, bAdd, roundsS]⟩ (one_all ⟨by simp, by simp [bodyS, bAdd, roundsS], by simp [bodyS, bAdd, roundsS]⟩ nil_all)) (when_all (one_all (clinit_few _) nil_all)))) ?_
    refine one_all (few_cls (by simp) (by simp) (by simp) (one_all abs_few nil_all)) ?_
    exact one_all (few_cls (by simp) (by simp) (Nat.le_trans (when_len _ _) (by simp)) (when_all (one_all abs_few nil_all))) nil_all
  · unfold familyS
    refine one_all (few_cls (by simp) (by simp) (Nat.le_trans (len2 (n := 2) (m := 1) (len2 (n := 1) (m := 1) (by simp) (Nat.le_trans (when_len _ _) (by simp))) (Nat.le_trans (when_len _ _) (by simp))) (by simp)) (app_all (app_all (one_all (mth_few (by simp) (by simp)) nil_all) (when_all (one_all abs_few nil_all))) (when_all (one_all (clinit_few _) nil_all)))) ?_
    refine one_all (few_cls (by simp) (by simp) (Nat.le_trans (len2 (n := 1) (m := 1) (by simp) (Nat.le_trans (when_len _ _) (by simp))) (by simp)) (app_all (one_all (run_few _ _) nil_all) (when_all (one_all (clinit_few _) nil_all)))) ?_
    refine one_all (few_cls (by simp) (by simp) (Nat.le_trans (len2 (n := 1) (m := 1) (Nat.le_trans (when_len _ _) (by simp)) (Nat.le_trans (when_len _ _) (by simp))) (by simp)) (app_all (when_all (one_all (run_few _ _) nil_all)) (when_all (one_all (mth_few (by simp) (by simp)) nil_all)))) ?_
    refine one_all (few_cls (Nat.le_trans (when_len _ _) (by simp)) (by simp) (by simp) nil_all) ?_
    refine one_all (few_cls (by simp) (by simp) (Nat.le_trans (len2 (n := 2) (m := 1) (by simp) (Nat.le_trans (when_len _ _) (by simp))) (by simp)) (app_all (one_all (run_few _ _) (one_all (mth_few (by simp) (by simp)) nil_all)) (when_all (one_all (mth_few (by simp) (by simp)) nil_all)))) ?_
    exact one_all (few_cls (by simp) (by simp) (Nat.le_trans (len2 (n := 1) (m := 1) (by simp) (Nat.le_trans (when_len _ _) (by simp))) (by simp)) (app_all (one_all (run_few _ _) nil_all) (when_all (one_all (clinit_few _) nil_all)))) nil_all
  · refine one_all (few_cls (by simp) (by simp) (by simp) nil_all) (one_all (few_cls (by simp) (by simp) (by simp) nil_all) (one_all (few_cls (by simp) (by simp) (by simp) (one_all (mth_few (by simp) (by simp)) nil_all)) (one_all (util_few k3) nil_all)))
theorem keep_few {l : List Cls} (h : ∀ c ∈ l, FewC c) : ∀ c ∈ keepL l, FewC c := fun c hc => h c (keepL_mem l c hc)
theorem sz_small {b : ByteArray} (h : b.size ≤ 1000) : b.size ≤ maxLen := Nat.le_trans h (by unfold maxLen; omega)
end Go.Proofs.Ytjegocecgncpkaa.R
namespace Go.Proofs.Ytjegocecgncpkaa.R
open Go.RowKit Go.Proofs.Ytjegocecgncpkaa.D Go.Proofs.Ytjegocecgncpkaa.O Go.Proofs.Ytjegocecgncpkaa.A Go.Proofs.Ytjegocecgncpkaa.S
def clsK (K : List Cls) (n : ByteArray) : Cls := (findC K n).getD noC
def firstL {α : Type} (K : List Cls) (f : Cls → List α) (p : α → Bool) : List ByteArray → Option (ByteArray × α)
  | [] => none
  | n :: l => match (f (clsK K n)).find? p with
    | some x => some (n, x)
    | none => firstL K f p l
def fldQ (name : ByteArray) (st : Bool) (x : Fld) : Bool := decide (x.1 = name) && decide (x.2.2 = st)
def mthQ (name d : ByteArray) (m : Mth) : Bool := decide (m.name = name) && decide (bx (ofL m.params m.ret) = d)
def virQ (name d : ByteArray) (m : Mth) : Bool := !m.st && (!m.ab && mthQ name d m)
def clinT : ByteArray := ⟨#[99, 108, 105, 110, 105, 116]⟩
def voidT : ByteArray := ⟨#[40, 41, 86]⟩
def fieldK (K : List Cls) (n name : ByteArray) (st : Bool) : Option (ByteArray × Fld) := firstL K (·.fields) (fldQ name st) (chainT (K.map skOf) n).1
def methodK (K : List Cls) (n name d : ByteArray) : Option (ByteArray × Mth) :=
  match firstL K (·.methods) (mthQ name d) (chainT (K.map skOf) n).1 with
  | some x => some x
  | none => firstL K (·.methods) (mthQ name d) (ifacesT (K.map skOf) n)
def virtualK (K : List Cls) (n name d : ByteArray) : Option (ByteArray × Mth) := firstL K (·.methods) (virQ name d) (chainT (K.map skOf) n).1
def downK (K : List Cls) (n : ByteArray) : List ByteArray := (chainT (K.map skOf) n).1.reverse
def instF (x : Fld) : Bool := !x.2.2
def slotsK (K : List Cls) (n : ByteArray) : List Fld := (downK K n).flatMap fun c => (clsK K c).fields.filter instF
def hasI (K : List Cls) (c : ByteArray) : Bool := (clsK K c).methods.any (mthQ clinT voidT)
def initsK (K : List Cls) (n : ByteArray) : List ByteArray := (downK K n).filter (hasI K)
def noF : Fld := (es, (0, es), false)
def noM : Mth := ⟨es, [], (0, es), false, false, 0, [], []⟩
theorem first_next {α : Type} {K : List Cls} {f : Cls → List α} {p : α → Bool} {l : List ByteArray} {i : Nat} {n : ByteArray} (h : l[i]? = some n) :
    firstL K f p (l.drop i) = match (f (clsK K n)).find? p with | some x => some (n, x) | none => firstL K f p (l.drop (i + 1)) := by
  obtain ⟨hi, rfl⟩ := List.getElem?_eq_some_iff.1 h
  rw [List.drop_eq_getElem_cons hi]
  rfl
theorem slots_next {K : List Cls} {l : List ByteArray} {i : Nat} {n : ByteArray} (h : l[i]? = some n) : (l.take (i + 1)).flatMap (fun c => (clsK K c).fields.filter instF) = (l.take i).flatMap (fun c => (clsK K c).fields.filter instF) ++ (clsK K n).fields.filter instF := by
  obtain ⟨hi, rfl⟩ := List.getElem?_eq_some_iff.1 h
  rw [List.take_succ_eq_append_getElem hi, List.flatMap_append]
  simp
theorem inits_next {K : List Cls} {l : List ByteArray} {i : Nat} {n : ByteArray} (h : l[i]? = some n) : (l.take (i + 1)).filter (hasI K) = if hasI K n = true then (l.take i).filter (hasI K) ++ [n] else (l.take i).filter (hasI K) := by
  obtain ⟨hi, rfl⟩ := List.getElem?_eq_some_iff.1 h
  rw [List.take_succ_eq_append_getElem hi, List.filter_append]
  by_cases e : hasI K l[i] = true
  · rw [if_pos e]; simp [e]
  · rw [if_neg e]; simp [e]
end Go.Proofs.Ytjegocecgncpkaa.R
namespace Go.Proofs.Ytjegocecgncpkaa.R
open Go.RowKit Go.Proofs.Ytjegocecgncpkaa.D Go.Proofs.Ytjegocecgncpkaa.O Go.Proofs.Ytjegocecgncpkaa.A
def idxP {α : Type} (p : α → Bool) (l : List α) : Int := match l.findIdx? p with | some k => (k : Int) | none => -1
theorem idx_hit {α : Type} {p : α → Bool} {l : List α} {i : Nat} {x : α} (h : l[i]? = some x) (hp : p x = true) (ha : ∀ j y, j < i → l[j]? = some y → p y = false) : idxP p l = (i : Int) := by
  have : l.findIdx? p = some i := by
    rw [List.findIdx?_eq_some_iff_getElem]
    obtain ⟨hi, rfl⟩ := List.getElem?_eq_some_iff.1 h
    refine ⟨hi, hp, fun j hj => ?_⟩
    have := ha j _ hj (List.getElem?_eq_getElem (by omega))
    simp [this]
  unfold idxP
  rw [this]
theorem idx_miss {α : Type} {p : α → Bool} {l : List α} (ha : ∀ j y, j < l.length → l[j]? = some y → p y = false) : idxP p l = -1 := by
  have : l.findIdx? p = none := by
    rw [List.findIdx?_eq_none_iff]
    intro x hx
    obtain ⟨j, hj, rfl⟩ := List.mem_iff_getElem.1 hx
    exact ha j _ hj (List.getElem?_eq_getElem hj)
  unfold idxP
  rw [this]
theorem idx_find {α : Type} (p : α → Bool) (l : List α) : (l.find? p = none ∧ idxP p l = -1) ∨ ∃ (k : Nat) (x : α), l.find? p = some x ∧ l[k]? = some x ∧ idxP p l = (k : Int) := by
  cases h : l.findIdx? p with
  | none =>
    refine .inl ⟨?_, by unfold idxP; rw [h]⟩
    rw [List.find?_eq_none]
    intro x hx
    have := (List.findIdx?_eq_none_iff.1 h) x hx
    simp [this]
  | some k =>
    obtain ⟨hk, hp, ha⟩ := List.findIdx?_eq_some_iff_getElem.1 h
    refine .inr ⟨k, l[k], ?_, List.getElem?_eq_getElem hk, by unfold idxP; rw [h]⟩
    rw [List.find?_eq_some_iff_getElem]
    exact ⟨hp, k, hk, rfl, fun j hj => by have := ha j hj; simpa using this⟩
theorem idx_any {α : Type} (p : α → Bool) (l : List α) : decide (0 ≤ idxP p l) = l.any p := by
  rcases idx_find p l with ⟨h, e⟩ | ⟨k, x, h, hk, e⟩
  · rw [e]
    have : l.any p = false := by
      rw [List.any_eq_false]
      exact List.find?_eq_none.1 h
    rw [this]; rfl
  · rw [e]
    have : l.any p = true := List.any_eq_true.2 ⟨x, List.mem_of_getElem? hk, List.find?_some h⟩
    rw [this, decide_eq_true (by omega)]
set_option maxHeartbeats 2000000 in
theorem idx_fld (p : Option Addr) (cap : Nat) (ok : Nat → Prop) (xs : List Fld) (g : Nat) (lb : Array Value) (pr : Fld → Bool) (w : World) (hr : RdX 4 (sP fldC) ok w (.slice p xs.length cap) xs) (hl : xs.length ≤ 1000000) (eg : ∀ args w, (callFunc g args).run Try.prog w = .ok (.enter g args) w)
    (hp : ∀ (W : World) (x : Fld), x ∈ xs → Below w.heap.size w W → Calls Try.prog g (#[.agg #[.string x.1, .int .i64 x.2.1.1, .string x.2.1.2, .bool x.2.2]] ++ lb) W fun e w' => e = .returned (.bool (pr x)) ∧ Below W.heap.size W w') :
    Calls Try.prog 62 #[.slice p xs.length cap, .func (.func g) #[] lb] w fun e w' => e = .returned (.int .i64 (idxP pr xs)) ∧ Below w.heap.size w w' := by
  have HR := Lib.hid hr
  have HP := Lib.hid hp
  clear hr hp
  go_enter Try.func62, Try.ntmps62
  go_wp2_with fail
  go_loopg [5, 8] xs.length (fun gg _ s8 wr => ∃ i : Nat, i ≤ xs.length ∧ xs.length - i ≤ gg ∧ s8 = .int .i64 (i : Int) ∧ Hid (Below w.heap.size w wr) ∧ Hid (∀ j y, j < i → xs[j]? = some y → pr y = false))
  case atStart => exact ⟨0, by omega, by omega, rfl, Lib.hid (Below.refl _ _), Lib.hid (fun j y h => absurd h (Nat.not_lt_zero _))⟩
  case round =>
    obtain ⟨i, hi, hg, rfl, HB, HA⟩ := hrel
    by_cases hlt : i < xs.length
    · obtain ⟨x, hx⟩ : ∃ x, xs[i]? = some x := ⟨_, List.getElem?_eq_getElem hlt⟩
      have hlt' : (i : Int) < (xs.length : Int) := by omega
      have i0 : (0 : Int) ≤ (i : Int) := by omega
      have hne : xs ≠ [] := by rintro rfl; simp at hlt
      obtain ⟨b, off, rfl, -, -, hBb, hbl, hcells⟩ := (HR.out.any (sP.grow _) HB.out).place hne
      obtain ⟨l, rfl, hcell⟩ := hcells _ _ hx
      obtain ⟨y0, y1, y2, y3⟩ := (show CellsAt wr b (off + i * 4) [.string x.1, .int .i64 x.2.1.1, .string x.2.1.2, .bool x.2.2] from hcell).four
      have hmem := List.mem_of_getElem? hx
      have hcall := HP.out wr x hmem HB.out
      have HX := Lib.hid hx
      clear hcells hcell hne hx hmem hBb
      cases hq : pr x with
      | true =>
        rw [hq] at hcall
        go_wp2_with (go_at_fn g; refine hcall.mono ?_; rintro e w' ⟨rfl, hb'⟩)
        go_ret
        exact ⟨by rw [idx_hit HX.out hq HA.out]; rfl, HB.out.trans (hb'.mono HB.out.size)⟩
      | false =>
        rw [hq] at hcall
        go_wp2_with (go_at_fn g; refine hcall.mono ?_; rintro e w' ⟨rfl, hb'⟩)
        go_roundg (xs.length - (i + 1))
        case measure => omega
        case rel =>
          refine ⟨i + 1, by omega, by omega, by go_num, Lib.hid (HB.out.trans (hb'.mono HB.out.size)), Lib.hid (fun j y hj hy => ?_)⟩
          by_cases e : j = i
          · subst e
            have := HX.out
            rw [hy] at this
            cases this
            exact hq
          · exact HA.out j y (by omega) hy
    · have hlt' : ¬ (i : Int) < (xs.length : Int) := by omega
      obtain rfl : i = xs.length := by omega
      go_wp2_with fail
      go_ret
      exact ⟨by rw [idx_miss HA.out]; rfl, HB.out⟩
set_option maxHeartbeats 2000000 in
theorem idx_mth (p : Option Addr) (cap : Nat) (ok : Nat → Prop) (xs : List Mth) (g : Nat) (lb : Array Value) (pr : Mth → Bool) (w : World) (hr : RdX 9 mP ok w (.slice p xs.length cap) xs) (hl : xs.length ≤ 1000000) (eg : ∀ args w, (callFunc g args).run Try.prog w = .ok (.enter g args) w)
    (hp : ∀ (W : World) (x : Mth) (pp pc ph : Option Addr) (np cp nc cc nh ch : Nat), x ∈ xs → Below w.heap.size w W → mP ok W [.string x.name, .slice pp np cp, .int .i64 x.ret.1, .string x.ret.2, .bool x.st, .bool x.ab, .int .i64 x.locals, .slice pc nc cc, .slice ph nh ch] x → Calls Try.prog g (#[.agg #[.string x.name, .slice pp np cp, .int .i64 x.ret.1, .string x.ret.2, .bool x.st, .bool x.ab, .int .i64 x.locals, .slice pc nc cc, .slice ph nh ch]] ++ lb) W fun e w' => e = .returned (.bool (pr x)) ∧ Below W.heap.size W w') :
    Calls Try.prog 68 #[.slice p xs.length cap, .func (.func g) #[] lb] w fun e w' => e = .returned (.int .i64 (idxP pr xs)) ∧ Below w.heap.size w w' := by
  have HR := Lib.hid hr
  have HP := Lib.hid hp
  clear hr hp
  go_enter Try.func68, Try.ntmps68
  go_wp2_with fail
  go_loopg [5, 8] xs.length (fun gg _ s8 wr => ∃ i : Nat, i ≤ xs.length ∧ xs.length - i ≤ gg ∧ s8 = .int .i64 (i : Int) ∧ Hid (Below w.heap.size w wr) ∧ Hid (∀ j y, j < i → xs[j]? = some y → pr y = false))
  case atStart => exact ⟨0, by omega, by omega, rfl, Lib.hid (Below.refl _ _), Lib.hid (fun j y h => absurd h (Nat.not_lt_zero _))⟩
  case round =>
    obtain ⟨i, hi, hg, rfl, HB, HA⟩ := hrel
    by_cases hlt : i < xs.length
    · obtain ⟨x, hx⟩ : ∃ x, xs[i]? = some x := ⟨_, List.getElem?_eq_getElem hlt⟩
      have hlt' : (i : Int) < (xs.length : Int) := by omega
      have i0 : (0 : Int) ≤ (i : Int) := by omega
      have hne : xs ≠ [] := by rintro rfl; simp at hlt
      obtain ⟨b, off, rfl, -, -, hBb, hbl, hcells⟩ := (HR.out.any mP.grow HB.out).place hne
      obtain ⟨l, ⟨vp, vc, vh, rfl, k1, k2, k3⟩, hcell⟩ := hcells _ _ hx
      obtain ⟨pp, cp, rfl, -⟩ := k1.len
      obtain ⟨pc, cc, rfl, -⟩ := k2.len
      obtain ⟨ph, ch, rfl, -⟩ := k3.len
      obtain ⟨y0, y1, y2, y3, y4, y5, y6, y7, y8⟩ := (show CellsAt wr b (off + i * 9) _ from hcell).nine
      have hmem := List.mem_of_getElem? hx
      have hcall := HP.out wr x _ _ _ _ _ _ _ _ _ hmem HB.out ⟨_, _, _, rfl, k1, k2, k3⟩
      have HX := Lib.hid hx
      clear hcells hcell hne hx hmem hBb k1 k2 k3
      cases hq : pr x with
      | true =>
        rw [hq] at hcall
        go_wp2_with (go_at_fn g; refine hcall.mono ?_; rintro e w' ⟨rfl, hb'⟩)
        go_ret
        exact ⟨by rw [idx_hit HX.out hq HA.out]; rfl, HB.out.trans (hb'.mono HB.out.size)⟩
      | false =>
        rw [hq] at hcall
        go_wp2_with (go_at_fn g; refine hcall.mono ?_; rintro e w' ⟨rfl, hb'⟩)
        go_roundg (xs.length - (i + 1))
        case measure => omega
        case rel =>
          refine ⟨i + 1, by omega, by omega, by go_num, Lib.hid (HB.out.trans (hb'.mono HB.out.size)), Lib.hid (fun j y hj hy => ?_)⟩
          by_cases e : j = i
          · subst e
            have := HX.out
            rw [hy] at this
            cases this
            exact hq
          · exact HA.out j y (by omega) hy
    · have hlt' : ¬ (i : Int) < (xs.length : Int) := by omega
      obtain rfl : i = xs.length := by omega
      go_wp2_with fail
      go_ret
      exact ⟨by rw [idx_miss HA.out]; rfl, HB.out⟩
set_option maxHeartbeats 2000000 in
theorem has_mth (p : Option Addr) (cap : Nat) (ok : Nat → Prop) (xs : List Mth) (g : Nat) (lb : Array Value) (pr : Mth → Bool) (w : World) (hr : RdX 9 mP ok w (.slice p xs.length cap) xs) (hl : xs.length ≤ 1000000) (eg : ∀ args w, (callFunc g args).run Try.prog w = .ok (.enter g args) w)
    (hp : ∀ (W : World) (x : Mth) (pp pc ph : Option Addr) (np cp nc cc nh ch : Nat), x ∈ xs → Below w.heap.size w W → mP ok W [.string x.name, .slice pp np cp, .int .i64 x.ret.1, .string x.ret.2, .bool x.st, .bool x.ab, .int .i64 x.locals, .slice pc nc cc, .slice ph nh ch] x → Calls Try.prog g (#[.agg #[.string x.name, .slice pp np cp, .int .i64 x.ret.1, .string x.ret.2, .bool x.st, .bool x.ab, .int .i64 x.locals, .slice pc nc cc, .slice ph nh ch]] ++ lb) W fun e w' => e = .returned (.bool (pr x)) ∧ Below W.heap.size W w') :
    Calls Try.prog 45 #[.slice p xs.length cap, .func (.func g) #[] lb] w fun e w' => e = .returned (.bool (xs.any pr)) ∧ Below w.heap.size w w' := by
  rw [← idx_any]
  have hcon := idx_mth p cap ok xs g lb pr w hr hl eg hp
  clear hr hp
  generalize idxP pr xs = r at hcon ⊢
  go_enter Try.func45, Try.ntmps45
  go_wp2_with (go_at_call 68; refine hcon.mono ?_; rintro e w' ⟨rfl, hb'⟩)
  go_ret
  exact ⟨rfl, hb'⟩
end Go.Proofs.Ytjegocecgncpkaa.R
