/- Texts that the proof is made of, joined. No condition. -/
import Derived.Test.YtjegocecgncpkaaC98
import Derived.Test.YtjegocecgncpkaaC99
import Derived.Deep.RegionLaw
import Derived.Deep.RegionHeld3
import Derived.StillTailTactics
import Derived.Test.YtjegocecgncpkaaC9H
set_option linter.unusedVariables false
set_option linter.unusedSimpArgs false
set_option maxRecDepth 100000
set_option maxHeartbeats 16000000
namespace Go.Proofs.Ytjegocecgncpkaa.R
open Go.RowKit Go.Proofs.Ytjegocecgncpkaa.D Go.Proofs.Ytjegocecgncpkaa.O Go.Proofs.Ytjegocecgncpkaa.A
def nmO {α : Type} (o : Option (ByteArray × α)) : ByteArray := match o with | some x => x.1 | none => es
def fdO (o : Option (ByteArray × Fld)) : Fld := match o with | some x => x.2 | none => noF
def mtO (o : Option (ByteArray × Mth)) : Mth := match o with | some x => x.2 | none => noM
theorem len_rd {α : Type} {sz : Nat} {P : Pv α} {ok : Nat → Prop} {w : World} {p : Option Addr} {n c : Nat} {xs : List α} (h : RdX sz P ok w (.slice p n c) xs) : n = xs.length := by
  obtain ⟨_, _, e, -⟩ := h.len
  simp only [Value.slice.injEq] at e
  exact e.2.1
theorem own_str {w : World} {B : Nat} {v : Value} {xs : List ByteArray} (h : S.OwnC S.cS 9 w B v xs) : RdX 1 (sP strC) (fun b => B ≤ b) w v xs := own_rdX h
theorem cls_few {K : List Cls} (hf : ∀ c ∈ K, FewC c) (n : ByteArray) : (clsK K n).fields.length ≤ 1000000 ∧ (clsK K n).methods.length ≤ 1000000 := ⟨(few_find hf n).2.1, (few_find hf n).2.2.1⟩
def AnsM (o : Option (ByteArray × Mth)) (w : World) (e : Ending) (w' : World) : Prop := ∃ pp np cp pc nc cc ph nh ch, e = .returned (.tuple #[.string (nmO o), .agg #[.string (mtO o).name, .slice pp np cp, .int .i64 (mtO o).ret.1, .string (mtO o).ret.2, .bool (mtO o).st, .bool (mtO o).ab, .int .i64 (mtO o).locals, .slice pc nc cc, .slice ph nh ch], .bool o.isSome]) ∧ mP (fun b => w.heap.size ≤ b) w' [.string (mtO o).name, .slice pp np cp, .int .i64 (mtO o).ret.1, .string (mtO o).ret.2, .bool (mtO o).st, .bool (mtO o).ab, .int .i64 (mtO o).locals, .slice pc nc cc, .slice ph nh ch] (mtO o) ∧ Below w.heap.size w w'
set_option maxHeartbeats 8000000 in
set_option maxRecDepth 100000 in
theorem first_f (ok : Nat → Prop) (tb mt : Nat) (vs : Value) (K : List Cls) (p : Option Addr) (cap : Nat) (ok2 : Nat → Prop) (L : List ByteArray) (g : Nat) (lb : Array Value) (pr : Fld → Bool) (w : World) (h : TrW w ok tb mt vs K) (hf : ∀ c ∈ K, FewC c)
    (hr : RdX 1 (sP strC) ok2 w (.slice p L.length cap) L) (hs : ∀ x ∈ L, x.size ≤ maxLen) (hl : L.length ≤ 1000000) (eg : ∀ args w, (callFunc g args).run Try.prog w = .ok (.enter g args) w)
    (hp : ∀ (W : World) (x : Fld), Below w.heap.size w W → Calls Try.prog g (#[.agg #[.string x.1, .int .i64 x.2.1.1, .string x.2.1.2, .bool x.2.2]] ++ lb) W fun e w' => e = .returned (.bool (pr x)) ∧ Below W.heap.size W w') :
    Calls Try.prog 35 #[.pointer (some ⟨tb, 0, none⟩), .slice p L.length cap, .func (.func 37) #[] #[], .func (.func g) #[] lb] w fun e w' => e = .returned (.tuple #[.string (nmO (firstL K (·.fields) pr L)), .agg #[.string (fdO (firstL K (·.fields) pr L)).1, .int .i64 (fdO (firstL K (·.fields) pr L)).2.1.1, .string (fdO (firstL K (·.fields) pr L)).2.1.2, .bool (fdO (firstL K (·.fields) pr L)).2.2], .bool (firstL K (·.fields) pr L).isSome]) ∧ Below w.heap.size w w' := by
  obtain ⟨R, hR⟩ : ∃ x, firstL K (·.fields) pr L = x := ⟨_, rfl⟩
  rw [hR]
  have HT := Lib.hid h
  have HF := Lib.hid hf
  have HRL := Lib.hid hr
  have HS := Lib.hid hs
  have HP := Lib.hid hp
  
  have HR0 : Hid (firstL K (·.fields) pr (L.drop 0) = R) := Lib.hid (by rw [List.drop_zero]; exact hR)
  have HFW := Lib.hid (fun n => cls_few hf n)
  clear h hf hr hs hp hR
  obtain ⟨w0, hw0⟩ : ∃ x, x = w.alloc (.cells #[.string ⟨#[]⟩, .int .i64 0, .string ⟨#[]⟩, .bool false] 37) := ⟨_, rfl⟩
  have HB0 : Hid (Below w.heap.size w w0) := Lib.hid (by rw [hw0]; exact below_alR _ _)
  have HX0 : Hid (w0.heap[w.heap.size]? = some (.cells #[.string ⟨#[]⟩, .int .i64 0, .string ⟨#[]⟩, .bool false] 37 (0, 0))) := Lib.hid (by rw [hw0]; exact heap_alloc_new _ _)
  have hs0 : w0.heap.size = w.heap.size + 1 := by rw [hw0]; simp
  go_enter Try.func35, Try.ntmps35
  go_upto_region 1 with fail
  rw [← hw0]
  clear hw0
  obtain ⟨xb, hxb⟩ : ∃ x, w.heap.size = x := ⟨_, rfl⟩
  rw [hxb] at HX0 HB0 hs0 ⊢
  have HXB := Lib.hid hxb
  clear hxb
  go_wp2_with fail
  go_loopw [19] (fun v wr => ∃ i : Nat, v = .int .i64 (i : Int) ∧ i ≤ L.length ∧ Hid (firstL K (·.fields) pr (L.drop i) = R) ∧ Hid (Below w0.heap.size w0 wr)) (fun v _ => L.length - (intOf v).toNat)
  case atStart => exact ⟨0, rfl, by omega, HR0, Lib.hid (Below.refl _ _)⟩
  case round =>
    clear HR0
    obtain ⟨i, rfl, hi, HG, HB⟩ := hrel
    have hzr := HB.out.size
    have HXr : Hid (wr.heap[xb]? = some (.cells #[.string ⟨#[]⟩, .int .i64 0, .string ⟨#[]⟩, .bool false] 37 (0, 0))) := Lib.hid ((HB.out.block _ (by omega)).trans HX0.out)
    have HBr : Hid (Below xb w wr) := Lib.hid (HB0.out.trans (HB.out.mono (by omega)))
    by_cases hlt : i < L.length
    · obtain ⟨n, hn⟩ : ∃ y, L[i]? = some y := ⟨_, List.getElem?_eq_getElem hlt⟩
      obtain ⟨bb, off, rfl, -, -, hbk, hbl, hc⟩ := rdX_at HRL.out hn
      have hlt' : (i : Int) < (L.length : Int) := by omega
      have i0 : (0 : Int) ≤ (i : Int) := by omega
      have hblx : bb < xb := by rw [← HXB.out]; exact hbl
      have hc2 : wr.cell? ⟨bb, off + i, none⟩ = some (.string n) := (HBr.out.cell (p := ⟨bb, off + i, none⟩) hblx).trans hc
      have hnm := HS.out n (List.mem_of_getElem? hn)
      have HN := Lib.hid (first_next (K := K) (f := (·.fields)) (p := pr) hn)
      rw [HG.out] at HN
      have HTr : Hid (TrW wr ok tb mt vs K) := Lib.hid (HT.out.below (by rw [HXB.out]; exact HBr.out))
      clear hn hc hbl
      go_upto_region 4 with fail
      clear hc2 hblx
      go_wp2_with fail
      refine (Class_t ok tb mt vs K n wr HTr.out hnm HF.out).mono ?_
      rintro e w1 ⟨pi, ni, ci, pf, nf, cf, pm, nm, cm, rfl, hco, hb1⟩
      have hfw := HFW.out n
      
      obtain ⟨c, hc⟩ : ∃ c, clsK K n = c := ⟨_, rfl⟩
      have hc' : (findC K n).getD noC = c := hc
      rw [hc] at hfw
      rw [hc'] at hco ⊢
      rw [hc] at HN
      clear hc hc'
      obtain ⟨kk, hkk⟩ : ∃ x, (findC K n).isSome = x := ⟨_, rfl⟩
      rw [hkk]
      clear hkk
      obtain ⟨vi, vf, vm, hv, q1, q2, q3⟩ := hco.rd
      simp only [List.cons.injEq, and_true, true_and] at hv
      obtain ⟨rfl, rfl, rfl⟩ := hv
      obtain rfl := len_rd q2
      obtain rfl := len_rd q3
      have HQ := Lib.hid q2
      clear hco q1 q2 q3
      obtain ⟨w2, hw2⟩ : ∃ x, x = w1.alloc (.cells #[.string c.name, .string c.super, .slice pi ni ci, .int .i64 c.kind, .slice pf c.fields.length cf, .slice pm c.methods.length cm] 50) := ⟨_, rfl⟩
      have hb2 : Below w1.heap.size w1 w2 := by rw [hw2]; exact below_alR _ _
      have HX2 : Hid (w2.heap[w1.heap.size]? = some (.cells #[.string c.name, .string c.super, .slice pi ni ci, .int .i64 c.kind, .slice pf c.fields.length cf, .slice pm c.methods.length cm] 50 (0, 0))) := Lib.hid (by rw [hw2]; exact heap_alloc_new _ _)
      have hz1 := hb1.size
      have hz2 := hb2.size
      have HB12 := Lib.hid (hb1.trans (hb2.mono hz1))
      have HQ2 := Lib.hid (HQ.out.any (sP.grow _) hb2)
      clear hb1 hb2 HQ
      go_upto_region 5 with fail
      rw [← hw2]
      clear hw2
      obtain ⟨cb, hcb⟩ : ∃ x, w1.heap.size = x := ⟨_, rfl⟩
      rw [hcb] at HX2 hz1 hz2 ⊢
      clear hcb
      obtain ⟨xl, xc, xf⟩ := boxN HX2.out
      have x0 := xc 0 _ rfl
      have x1 := xc 1 _ rfl
      have x2 := xc 2 _ rfl
      have x3 := xc 3 _ rfl
      have x4 := xc 4 _ rfl
      have x5 := xc 5 _ rfl
      simp only [Nat.zero_add] at x0 x1 x2 x3 x4 x5
      clear xc xf
      have HB2 : Hid (Below w0.heap.size w0 w2) := Lib.hid (HB.out.trans (HB12.out.mono hzr))
      have HBw : Hid (Below xb w w2) := Lib.hid (HB0.out.trans (HB2.out.mono (by omega)))
      obtain ⟨r, hr⟩ : ∃ x, idxP pr c.fields = x := ⟨_, rfl⟩
      have HRI := Lib.hid hr
      clear hr
      go_upto_region 6 with first
        | (go_at_call 37; refine (fields_m _ _ _ _ _ _ pf _ cf rfl pi pm _ ci _ cm rfl rfl _).mono ?_; rintro e w3 ⟨rfl, hb3⟩)
        | (go_at_call 62; refine (idx_fld _ _ _ c.fields g lb pr _ (HQ2.out.any (sP.grow _) hb3) hfw.1 eg (fun W x _ hbW => HP.out W x (by rw [HXB.out]; exact (HBw.out.trans (hb3.mono (by omega))).trans (hbW.mono (by have := hb3.size; omega))))).mono ?_; rw [HRI.out]; rintro e w4 ⟨rfl, hb4⟩)
      have HBf : Hid (Below w0.heap.size w0 w4) := Lib.hid (HB2.out.trans ((hb3.trans (hb4.mono hb3.size)).mono (by omega)))
      have HX4 : Hid (w4.heap[cb]? = some (.cells #[.string c.name, .string c.super, .slice pi ni ci, .int .i64 c.kind, .slice pf c.fields.length cf, .slice pm c.methods.length cm] 50 (0, 0))) := Lib.hid ((hb4.block _ (by have := hb3.size; omega)).trans ((hb3.block _ xl).trans HX2.out))
      have HQ4 := Lib.hid (HQ2.out.any (sP.grow _) (hb3.trans (hb4.mono hb3.size)))
      have hz4 := HBf.out.size
      have HZR := Lib.hid hzr
      clear hb3 hb4 x0 x1 x2 x3 x4 x5 xl HX2 HQ2 HB12 HBw HB2 HXr HBr HTr HB hzr
      rcases idx_find pr c.fields with ⟨hfd, e⟩ | ⟨k, x, hfd, hk, e⟩
      · have e2 := HRI.out.symm.trans e
        subst e2
        rw [hfd] at HN
        clear hfd e HRI
        go_wp2_with fail
        go_roundw
        case rel => exact ⟨i + 1, by go_num, by omega, Lib.hid HN.out.symm, HBf⟩
        case measure => simp [intOf]; omega
      · have e2 := HRI.out.symm.trans e
        subst e2
        rw [hfd] at HN
        have hkl : k < c.fields.length := (List.getElem?_eq_some_iff.1 hk).1
        have k0 : (0 : Int) ≤ (k : Int) := by omega
        have k1 : (k : Int) < (c.fields.length : Int) := by omega
        have HK := Lib.hid hk
        clear hfd e HRI hk
        go_upto_region 7 with fail
        obtain ⟨xl, xc, xf⟩ := boxN HX4.out
        have x0 := xc 0 _ rfl
        have x1 := xc 1 _ rfl
        have x2 := xc 2 _ rfl
        have x3 := xc 3 _ rfl
        have x4 := xc 4 _ rfl
        have x5 := xc 5 _ rfl
        simp only [Nat.zero_add] at x0 x1 x2 x3 x4 x5
        clear xc xf
        have hne : c.fields ≠ [] := by rintro e; rw [e] at hkl; simp at hkl
        obtain ⟨fb, fo, rfl, -, -, hBb, hbl, hcells⟩ := HQ4.out.place hne
        obtain ⟨l, rfl, hcell⟩ := hcells _ _ HK.out
        skip
        have HCL := Lib.hid (show CellsAt w4 fb (fo + k * 4) [.string x.1, .int .i64 x.2.1.1, .string x.2.1.2, .bool x.2.2] from hcell)
        have HXB4 : Hid (w4.heap[xb]? = some (.cells #[.string ⟨#[]⟩, .int .i64 0, .string ⟨#[]⟩, .bool false] 37 (0, 0))) := Lib.hid ((HBf.out.block _ (by omega)).trans HX0.out)
        clear hcells hcell hne hBb
        go_region_law ((try rw [if_pos (by rfl)]); (try go_simp); (first | go_at_call 37 | go_at_fn 37 | skip); refine (fields_m _ _ _ _ _ _ (some ⟨fb, fo, none⟩) _ cf rfl pi pm _ ci _ cm rfl rfl _).mono ?_; rintro e w5 ⟨rfl, hb5⟩; have hcl5 := CellsAt.below (w := w4.drew) HCL.out hb5 hbl; obtain ⟨y0, y1, y2, y3⟩ := hcl5.four; have hX5 : w5.heap[xb]? = _ := (hb5.block xb (show xb < w4.heap.size by omega)).trans HXB4.out; obtain ⟨bl, bc, bf⟩ := boxN hX5; have b0 := bc 0 _ rfl; have bz0 := bf 0; have b1 := bc 1 _ rfl; have bz1 := bf 1; have b2 := bc 2 _ rfl; have bz2 := bf 2; have b3 := bc 3 _ rfl; have bz3 := bf 3; simp only [Nat.zero_add] at b0 b1 b2 b3; clear bc bf; have HB5 := Lib.hid hb5; have HX5 := Lib.hid hX5; have HC5 := Lib.hid hcl5; clear hb5 hX5 hcl5)
        all_goals
          have hS := set4 (v0 := .string x.1) (v1 := .int .i64 x.2.1.1) (v2 := .string x.2.1.2) (v3 := .bool x.2.2) HX5.out
          obtain ⟨W7, hW7⟩ : ∃ z, z = ((((w5.setCell ⟨xb, 0, none⟩ (.string x.1)).setCell ⟨xb, 1, none⟩ (.int .i64 x.2.1.1)).setCell ⟨xb, 2, none⟩ (.string x.2.1.2)).setCell ⟨xb, 3, none⟩ (.bool x.2.2)) := ⟨_, rfl⟩
          rw [← hW7] at hS ⊢
          obtain ⟨r9, rk⟩ := hS
          have HR9 := Lib.hid r9
          obtain ⟨-, rc, -⟩ := boxN r9
          have r0 := rc 0 _ rfl; have r1 := rc 1 _ rfl; have r2 := rc 2 _ rfl; have r3 := rc 3 _ rfl; simp only [Nat.zero_add] at r0 r1 r2 r3
          have HRK := Lib.hid rk
          clear hW7 r9 rk rc y0 b0 bz0 y1 b1 bz1 y2 b2 bz2 y3 b3 bz3 bl
          go_wp2_with fail
          refine bodyPost_ret (v := .tuple #[.string n, .agg #[.string x.1, .int .i64 x.2.1.1, .string x.2.1.2, .bool x.2.2], .bool true]) (by simp [*, results, Try.results35, go_sem]) rfl ?_
          have HE : R = some (n, x) := HN.out
          rw [HE]
          have hz5 := HB5.out.size
          have hz5' : w4.heap.size ≤ w5.heap.size := hz5
          have hbb : Below w.heap.size w W7 := by
            rw [HXB.out]
            exact ((HB0.out.trans (HBf.out.mono (by omega))).trans ((Below.refl xb w4).drew.trans (HB5.out.mono (show xb ≤ w4.heap.size by omega)))).trans (HRK.out.below (fun z hz => by rw [List.mem_singleton.1 hz]; exact Nat.le_refl _) (by omega))
          exact ⟨rfl, hbb⟩
    · have hlt' : ¬ (i : Int) < (L.length : Int) := by omega
      obtain rfl : i = L.length := by omega
      have HE : Hid (none = R) := Lib.hid (by have := HG.out; rwa [List.drop_length] at this)
      go_upto_region 10 with fail
      obtain ⟨w8, hw8⟩ : ∃ z, z = wr.alloc (.cells #[.string ⟨#[]⟩, .int .i64 0, .string ⟨#[]⟩, .bool false] 37) := ⟨_, rfl⟩
      have hX8 : w8.heap[wr.heap.size]? = some (.cells #[.string ⟨#[]⟩, .int .i64 0, .string ⟨#[]⟩, .bool false] 37 (0, 0)) := by rw [hw8]; exact heap_alloc_new _ _
      have hb8 : Below wr.heap.size wr w8 := by rw [hw8]; exact below_alR _ _
      rw [← hw8]
      clear hw8
      have hxr : xb < wr.heap.size := by omega
      have hY8 : w8.heap[xb]? = some (.cells #[.string ⟨#[]⟩, .int .i64 0, .string ⟨#[]⟩, .bool false] 37 (0, 0)) := (hb8.block xb hxr).trans HXr.out
      have HY8 := Lib.hid hY8
      have HB8 := Lib.hid hb8
      obtain ⟨sb, hsb⟩ : ∃ z, wr.heap.size = z := ⟨_, rfl⟩
      rw [hsb] at hX8 hxr ⊢
      have HSB := Lib.hid hsb
      have hne : sb ≠ xb := by omega
      obtain ⟨al, ac, af⟩ := boxN hX8
      obtain ⟨bl, bc, bf⟩ := boxN hY8
      have a0 := ac 0 _ rfl; have a1 := ac 1 _ rfl; have a2 := ac 2 _ rfl; have a3 := ac 3 _ rfl; simp only [Nat.zero_add] at a0 a1 a2 a3
      have b0 := bc 0 _ rfl; have bz0 := bf 0; have b1 := bc 1 _ rfl; have bz1 := bf 1; have b2 := bc 2 _ rfl; have bz2 := bf 2; have b3 := bc 3 _ rfl; have bz3 := bf 3; simp only [Nat.zero_add] at b0 b1 b2 b3
      clear ac af bc bf hX8 hY8 hb8 hsb
      go_region_law (fail)
      all_goals
        have hS := set4 (v0 := .string ⟨#[]⟩) (v1 := .int .i64 0) (v2 := .string ⟨#[]⟩) (v3 := .bool false) HY8.out
        obtain ⟨W6, hW6⟩ : ∃ z, z = ((((w8.setCell ⟨xb, 0, none⟩ (.string ⟨#[]⟩)).setCell ⟨xb, 1, none⟩ (.int .i64 0)).setCell ⟨xb, 2, none⟩ (.string ⟨#[]⟩)).setCell ⟨xb, 3, none⟩ (.bool false)) := ⟨_, rfl⟩
        rw [← hW6] at hS ⊢
        clear hW6
        obtain ⟨W7, hW7⟩ : ∃ z, z = W6.drew := ⟨_, rfl⟩
        rw [← hW7]
        obtain ⟨r9', rk'⟩ := hS
        have r9 : W7.heap[xb]? = some (.cells #[.string ⟨#[]⟩, .int .i64 0, .string ⟨#[]⟩, .bool false] 37 (0, 0)) := by rw [hW7]; exact r9'
        have rk : Kpt [xb] w8 W7 := by rw [hW7]; exact rk'.drew
        clear r9' rk'
        have HR9 := Lib.hid r9
        obtain ⟨-, rc, -⟩ := boxN r9
        have r0 := rc 0 _ rfl; have r1 := rc 1 _ rfl; have r2 := rc 2 _ rfl; have r3 := rc 3 _ rfl; simp only [Nat.zero_add] at r0 r1 r2 r3
        have HRK := Lib.hid rk
        clear hW7 r9 rk rc a0 b0 bz0 a1 b1 bz1 a2 b2 bz2 a3 b3 bz3 bl al
        go_wp2_with fail
        refine bodyPost_ret (v := .tuple #[.string ⟨#[]⟩, .agg #[.string ⟨#[]⟩, .int .i64 0, .string ⟨#[]⟩, .bool false], .bool false]) (by simp [*, results, Try.results35, go_sem]) rfl ?_
        rw [← HE.out]
        have hz8 := HB8.out.size
        have hbb : Below w.heap.size w W7 := by
          rw [HXB.out]
          exact (HBr.out.trans (HB8.out.mono (by have := HSB.out; omega))).trans (HRK.out.below (fun z hz => by rw [List.mem_singleton.1 hz]; exact Nat.le_refl _) (show xb ≤ w8.heap.size by omega))
        exact ⟨rfl, hbb⟩
set_option maxHeartbeats 8000000 in
set_option maxRecDepth 100000 in
theorem first_m (ok : Nat → Prop) (tb mt : Nat) (vs : Value) (K : List Cls) (p : Option Addr) (cap : Nat) (ok2 : Nat → Prop) (L : List ByteArray) (g : Nat) (lb : Array Value) (pr : Mth → Bool) (w : World) (h : TrW w ok tb mt vs K) (hf : ∀ c ∈ K, FewC c) (hzm : ∀ n, ∀ m ∈ (clsK K n).methods, SzM m)
    (hr : RdX 1 (sP strC) ok2 w (.slice p L.length cap) L) (hs : ∀ x ∈ L, x.size ≤ maxLen) (hl : L.length ≤ 1000000) (eg : ∀ args w, (callFunc g args).run Try.prog w = .ok (.enter g args) w)
    (hp : ∀ (W : World) (x : Mth) (okk : Nat → Prop) (pp pc ph : Option Addr) (np cp nc cc nh ch : Nat), SzM x → Below w.heap.size w W → mP okk W [.string x.name, .slice pp np cp, .int .i64 x.ret.1, .string x.ret.2, .bool x.st, .bool x.ab, .int .i64 x.locals, .slice pc nc cc, .slice ph nh ch] x → Calls Try.prog g (#[.agg #[.string x.name, .slice pp np cp, .int .i64 x.ret.1, .string x.ret.2, .bool x.st, .bool x.ab, .int .i64 x.locals, .slice pc nc cc, .slice ph nh ch]] ++ lb) W fun e w' => e = .returned (.bool (pr x)) ∧ Below W.heap.size W w') :
    Calls Try.prog 40 #[.pointer (some ⟨tb, 0, none⟩), .slice p L.length cap, .func (.func 41) #[] #[], .func (.func g) #[] lb] w fun e w' => AnsM (firstL K (·.methods) pr L) w e w' := by
  obtain ⟨R, hR⟩ : ∃ x, firstL K (·.methods) pr L = x := ⟨_, rfl⟩
  rw [hR]
  have HT := Lib.hid h
  have HF := Lib.hid hf
  have HRL := Lib.hid hr
  have HS := Lib.hid hs
  have HP := Lib.hid hp
  have HZM := Lib.hid hzm
  have HR0 : Hid (firstL K (·.methods) pr (L.drop 0) = R) := Lib.hid (by rw [List.drop_zero]; exact hR)
  have HFW := Lib.hid (fun n => cls_few hf n)
  clear h hf hr hs hp hR hzm
  obtain ⟨w0, hw0⟩ : ∃ x, x = w.alloc (.cells #[.string ⟨#[]⟩, .slice none 0 0, .int .i64 0, .string ⟨#[]⟩, .bool false, .bool false, .int .i64 0, .slice none 0 0, .slice none 0 0] 44) := ⟨_, rfl⟩
  have HB0 : Hid (Below w.heap.size w w0) := Lib.hid (by rw [hw0]; exact below_alR _ _)
  have HX0 : Hid (w0.heap[w.heap.size]? = some (.cells #[.string ⟨#[]⟩, .slice none 0 0, .int .i64 0, .string ⟨#[]⟩, .bool false, .bool false, .int .i64 0, .slice none 0 0, .slice none 0 0] 44 (0, 0))) := Lib.hid (by rw [hw0]; exact heap_alloc_new _ _)
  have hs0 : w0.heap.size = w.heap.size + 1 := by rw [hw0]; simp
  go_enter Try.func40, Try.ntmps40
  go_upto_region 1 with fail
  rw [← hw0]
  clear hw0
  obtain ⟨xb, hxb⟩ : ∃ x, w.heap.size = x := ⟨_, rfl⟩
  rw [hxb] at HX0 HB0 hs0 ⊢
  have HXB := Lib.hid hxb
  clear hxb
  go_wp2_with fail
  go_loopw [19] (fun v wr => ∃ i : Nat, v = .int .i64 (i : Int) ∧ i ≤ L.length ∧ Hid (firstL K (·.methods) pr (L.drop i) = R) ∧ Hid (Below w0.heap.size w0 wr)) (fun v _ => L.length - (intOf v).toNat)
  case atStart => exact ⟨0, rfl, by omega, HR0, Lib.hid (Below.refl _ _)⟩
  case round =>
    clear HR0
    obtain ⟨i, rfl, hi, HG, HB⟩ := hrel
    have hzr := HB.out.size
    have HXr : Hid (wr.heap[xb]? = some (.cells #[.string ⟨#[]⟩, .slice none 0 0, .int .i64 0, .string ⟨#[]⟩, .bool false, .bool false, .int .i64 0, .slice none 0 0, .slice none 0 0] 44 (0, 0))) := Lib.hid ((HB.out.block _ (by omega)).trans HX0.out)
    have HBr : Hid (Below xb w wr) := Lib.hid (HB0.out.trans (HB.out.mono (by omega)))
    by_cases hlt : i < L.length
    · obtain ⟨n, hn⟩ : ∃ y, L[i]? = some y := ⟨_, List.getElem?_eq_getElem hlt⟩
      obtain ⟨bb, off, rfl, -, -, hbk, hbl, hc⟩ := rdX_at HRL.out hn
      have hlt' : (i : Int) < (L.length : Int) := by omega
      have i0 : (0 : Int) ≤ (i : Int) := by omega
      have hblx : bb < xb := by rw [← HXB.out]; exact hbl
      have hc2 : wr.cell? ⟨bb, off + i, none⟩ = some (.string n) := (HBr.out.cell (p := ⟨bb, off + i, none⟩) hblx).trans hc
      have hnm := HS.out n (List.mem_of_getElem? hn)
      have HN := Lib.hid (first_next (K := K) (f := (·.methods)) (p := pr) hn)
      rw [HG.out] at HN
      have HTr : Hid (TrW wr ok tb mt vs K) := Lib.hid (HT.out.below (by rw [HXB.out]; exact HBr.out))
      clear hn hc hbl
      go_upto_region 4 with fail
      clear hc2 hblx
      go_wp2_with fail
      refine (Class_t ok tb mt vs K n wr HTr.out hnm HF.out).mono ?_
      rintro e w1 ⟨pi, ni, ci, pf, nf, cf, pm, nm, cm, rfl, hco, hb1⟩
      have hfw := HFW.out n
      have hzn := HZM.out n
      obtain ⟨c, hc⟩ : ∃ c, clsK K n = c := ⟨_, rfl⟩
      have hc' : (findC K n).getD noC = c := hc
      rw [hc] at hfw hzn
      rw [hc'] at hco ⊢
      rw [hc] at HN
      clear hc hc'
      obtain ⟨kk, hkk⟩ : ∃ x, (findC K n).isSome = x := ⟨_, rfl⟩
      rw [hkk]
      clear hkk
      obtain ⟨vi, vf, vm, hv, q1, q2, q3⟩ := hco.rd
      simp only [List.cons.injEq, and_true, true_and] at hv
      obtain ⟨rfl, rfl, rfl⟩ := hv
      obtain rfl := len_rd q2
      obtain rfl := len_rd q3
      have HQ := Lib.hid q3
      clear hco q1 q2 q3
      obtain ⟨w2, hw2⟩ : ∃ x, x = w1.alloc (.cells #[.string c.name, .string c.super, .slice pi ni ci, .int .i64 c.kind, .slice pf c.fields.length cf, .slice pm c.methods.length cm] 50) := ⟨_, rfl⟩
      have hb2 : Below w1.heap.size w1 w2 := by rw [hw2]; exact below_alR _ _
      have HX2 : Hid (w2.heap[w1.heap.size]? = some (.cells #[.string c.name, .string c.super, .slice pi ni ci, .int .i64 c.kind, .slice pf c.fields.length cf, .slice pm c.methods.length cm] 50 (0, 0))) := Lib.hid (by rw [hw2]; exact heap_alloc_new _ _)
      have hz1 := hb1.size
      have hz2 := hb2.size
      have HB12 := Lib.hid (hb1.trans (hb2.mono hz1))
      have HQ2 := Lib.hid (HQ.out.any mP.grow hb2)
      clear hb1 hb2 HQ
      go_upto_region 5 with fail
      rw [← hw2]
      clear hw2
      obtain ⟨cb, hcb⟩ : ∃ x, w1.heap.size = x := ⟨_, rfl⟩
      rw [hcb] at HX2 hz1 hz2 ⊢
      clear hcb
      obtain ⟨xl, xc, xf⟩ := boxN HX2.out
      have x0 := xc 0 _ rfl
      have x1 := xc 1 _ rfl
      have x2 := xc 2 _ rfl
      have x3 := xc 3 _ rfl
      have x4 := xc 4 _ rfl
      have x5 := xc 5 _ rfl
      simp only [Nat.zero_add] at x0 x1 x2 x3 x4 x5
      clear xc xf
      have HB2 : Hid (Below w0.heap.size w0 w2) := Lib.hid (HB.out.trans (HB12.out.mono hzr))
      have HBw : Hid (Below xb w w2) := Lib.hid (HB0.out.trans (HB2.out.mono (by omega)))
      obtain ⟨r, hr⟩ : ∃ x, idxP pr c.methods = x := ⟨_, rfl⟩
      have HRI := Lib.hid hr
      clear hr
      go_upto_region 6 with first
        | (go_at_call 41; refine (methods_m _ _ _ _ _ _ pf _ cf rfl pi pm _ ci _ cm rfl rfl _).mono ?_; rintro e w3 ⟨rfl, hb3⟩)
        | (go_at_call 68; refine (idx_mth _ _ _ c.methods g lb pr _ (HQ2.out.any mP.grow hb3) hfw.2 eg (fun W x pp pc ph np cp nc cc nh ch hx hbW hmx => HP.out W x _ pp pc ph np cp nc cc nh ch (hzn x hx) (by rw [HXB.out]; exact (HBw.out.trans (hb3.mono (by omega))).trans (hbW.mono (by have := hb3.size; omega))) hmx)).mono ?_; rw [HRI.out]; rintro e w4 ⟨rfl, hb4⟩)
      have HBf : Hid (Below w0.heap.size w0 w4) := Lib.hid (HB2.out.trans ((hb3.trans (hb4.mono hb3.size)).mono (by omega)))
      have HX4 : Hid (w4.heap[cb]? = some (.cells #[.string c.name, .string c.super, .slice pi ni ci, .int .i64 c.kind, .slice pf c.fields.length cf, .slice pm c.methods.length cm] 50 (0, 0))) := Lib.hid ((hb4.block _ (by have := hb3.size; omega)).trans ((hb3.block _ xl).trans HX2.out))
      have HQ4 := Lib.hid (HQ2.out.any mP.grow (hb3.trans (hb4.mono hb3.size)))
      have hz4 := HBf.out.size
      have HZR := Lib.hid hzr
      clear hb3 hb4 x0 x1 x2 x3 x4 x5 xl HX2 HQ2 HB12 HBw HB2 HXr HBr HTr HB hzr
      rcases idx_find pr c.methods with ⟨hfd, e⟩ | ⟨k, x, hfd, hk, e⟩
      · have e2 := HRI.out.symm.trans e
        subst e2
        rw [hfd] at HN
        clear hfd e HRI
        go_wp2_with fail
        go_roundw
        case rel => exact ⟨i + 1, by go_num, by omega, Lib.hid HN.out.symm, HBf⟩
        case measure => simp [intOf]; omega
      · have e2 := HRI.out.symm.trans e
        subst e2
        rw [hfd] at HN
        have hkl : k < c.methods.length := (List.getElem?_eq_some_iff.1 hk).1
        have k0 : (0 : Int) ≤ (k : Int) := by omega
        have k1 : (k : Int) < (c.methods.length : Int) := by omega
        have HK := Lib.hid hk
        clear hfd e HRI hk
        go_upto_region 7 with fail
        obtain ⟨xl, xc, xf⟩ := boxN HX4.out
        have x0 := xc 0 _ rfl
        have x1 := xc 1 _ rfl
        have x2 := xc 2 _ rfl
        have x3 := xc 3 _ rfl
        have x4 := xc 4 _ rfl
        have x5 := xc 5 _ rfl
        simp only [Nat.zero_add] at x0 x1 x2 x3 x4 x5
        clear xc xf
        have hne : c.methods ≠ [] := by rintro e; rw [e] at hkl; simp at hkl
        obtain ⟨fb, fo, rfl, -, -, hBb, hbl, hcells⟩ := HQ4.out.place hne
        obtain ⟨l, ⟨vp, vc, vh, rfl, q1, q2, q3⟩, hcell⟩ := hcells _ _ HK.out
        obtain ⟨pp, cp, rfl, -⟩ := q1.len
        obtain ⟨pc, cc, rfl, -⟩ := q2.len
        obtain ⟨ph, ch, rfl, -⟩ := q3.len
        have HQ1 := Lib.hid q1
        have HQ2' := Lib.hid q2
        have HQ3 := Lib.hid q3
        clear q1 q2 q3
        have HCL := Lib.hid (show CellsAt w4 fb (fo + k * 9) _ from hcell)
        have HXB4 : Hid (w4.heap[xb]? = some (.cells #[.string ⟨#[]⟩, .slice none 0 0, .int .i64 0, .string ⟨#[]⟩, .bool false, .bool false, .int .i64 0, .slice none 0 0, .slice none 0 0] 44 (0, 0))) := Lib.hid ((HBf.out.block _ (by omega)).trans HX0.out)
        clear hcells hcell hne hBb
        go_region_law ((try rw [if_pos (by rfl)]); (try go_simp); (first | go_at_call 41 | go_at_fn 41 | skip); refine (methods_m _ _ _ _ _ _ pf _ cf rfl pi (some ⟨fb, fo, none⟩) _ ci _ cm rfl rfl _).mono ?_; rintro e w5 ⟨rfl, hb5⟩; have hcl5 := CellsAt.below (w := w4.drew) HCL.out hb5 hbl; obtain ⟨y0, y1, y2, y3, y4, y5, y6, y7, y8⟩ := hcl5.nine; have hX5 : w5.heap[xb]? = _ := (hb5.block xb (show xb < w4.heap.size by omega)).trans HXB4.out; obtain ⟨bl, bc, bf⟩ := boxN hX5; have b0 := bc 0 _ rfl; have bz0 := bf 0; have b1 := bc 1 _ rfl; have bz1 := bf 1; have b2 := bc 2 _ rfl; have bz2 := bf 2; have b3 := bc 3 _ rfl; have bz3 := bf 3; have b4 := bc 4 _ rfl; have bz4 := bf 4; have b5 := bc 5 _ rfl; have bz5 := bf 5; have b6 := bc 6 _ rfl; have bz6 := bf 6; have b7 := bc 7 _ rfl; have bz7 := bf 7; have b8 := bc 8 _ rfl; have bz8 := bf 8; simp only [Nat.zero_add] at b0 b1 b2 b3 b4 b5 b6 b7 b8; clear bc bf; have HB5 := Lib.hid hb5; have HX5 := Lib.hid hX5; have HC5 := Lib.hid hcl5; clear hb5 hX5 hcl5)
        all_goals
          have hS := set9 (v0 := .string x.name) (v1 := .slice pp x.params.length cp) (v2 := .int .i64 x.ret.1) (v3 := .string x.ret.2) (v4 := .bool x.st) (v5 := .bool x.ab) (v6 := .int .i64 x.locals) (v7 := .slice pc x.code.length cc) (v8 := .slice ph x.hs.length ch) HX5.out
          obtain ⟨W7, hW7⟩ : ∃ z, z = (((((((((w5.setCell ⟨xb, 0, none⟩ (.string x.name)).setCell ⟨xb, 1, none⟩ (.slice pp x.params.length cp)).setCell ⟨xb, 2, none⟩ (.int .i64 x.ret.1)).setCell ⟨xb, 3, none⟩ (.string x.ret.2)).setCell ⟨xb, 4, none⟩ (.bool x.st)).setCell ⟨xb, 5, none⟩ (.bool x.ab)).setCell ⟨xb, 6, none⟩ (.int .i64 x.locals)).setCell ⟨xb, 7, none⟩ (.slice pc x.code.length cc)).setCell ⟨xb, 8, none⟩ (.slice ph x.hs.length ch)) := ⟨_, rfl⟩
          rw [← hW7] at hS ⊢
          obtain ⟨r9, rk⟩ := hS
          have HR9 := Lib.hid r9
          obtain ⟨-, rc, -⟩ := boxN r9
          have r0 := rc 0 _ rfl; have r1 := rc 1 _ rfl; have r2 := rc 2 _ rfl; have r3 := rc 3 _ rfl; have r4 := rc 4 _ rfl; have r5 := rc 5 _ rfl; have r6 := rc 6 _ rfl; have r7 := rc 7 _ rfl; have r8 := rc 8 _ rfl; simp only [Nat.zero_add] at r0 r1 r2 r3 r4 r5 r6 r7 r8
          have HRK := Lib.hid rk
          clear hW7 r9 rk rc y0 b0 bz0 y1 b1 bz1 y2 b2 bz2 y3 b3 bz3 y4 b4 bz4 y5 b5 bz5 y6 b6 bz6 y7 b7 bz7 y8 b8 bz8 bl
          go_wp2_with fail
          refine bodyPost_ret (v := .tuple #[.string n, .agg #[.string x.name, .slice pp x.params.length cp, .int .i64 x.ret.1, .string x.ret.2, .bool x.st, .bool x.ab, .int .i64 x.locals, .slice pc x.code.length cc, .slice ph x.hs.length ch], .bool true]) (by simp [*, results, Try.results40, go_sem]) rfl ?_
          have HE : R = some (n, x) := HN.out
          rw [HE]
          have hz5 := HB5.out.size
          have hz5' : w4.heap.size ≤ w5.heap.size := hz5
          have hbb : Below w.heap.size w W7 := by
            rw [HXB.out]
            exact ((HB0.out.trans (HBf.out.mono (by omega))).trans ((Below.refl xb w4).drew.trans (HB5.out.mono (show xb ≤ w4.heap.size by omega)))).trans (HRK.out.below (fun z hz => by rw [List.mem_singleton.1 hz]; exact Nat.le_refl _) (by omega))
          refine ⟨_, _, _, _, _, _, _, _, _, rfl, ?_, hbb⟩
          refine mP.grow (fun b => wr.heap.size ≤ b) _ w4 W7 _ _ ⟨_, _, _, rfl, HQ1.out, HQ2'.out, HQ3.out⟩ (fun b (hb : wr.heap.size ≤ b) _ => (show w.heap.size ≤ b by have := HXB.out; have := HZR.out; omega)) (fun b hb hlb => ?_) (Nat.le_trans hz5' HRK.out.size)
          have hb' : wr.heap.size ≤ b := hb
          rw [HRK.out.2 b (by omega) (by simp; have := HZR.out; omega), HB5.out.block b hlb]
          rfl
    · have hlt' : ¬ (i : Int) < (L.length : Int) := by omega
      obtain rfl : i = L.length := by omega
      have HE : Hid (none = R) := Lib.hid (by have := HG.out; rwa [List.drop_length] at this)
      go_upto_region 10 with fail
      obtain ⟨w8, hw8⟩ : ∃ z, z = wr.alloc (.cells #[.string ⟨#[]⟩, .slice none 0 0, .int .i64 0, .string ⟨#[]⟩, .bool false, .bool false, .int .i64 0, .slice none 0 0, .slice none 0 0] 44) := ⟨_, rfl⟩
      have hX8 : w8.heap[wr.heap.size]? = some (.cells #[.string ⟨#[]⟩, .slice none 0 0, .int .i64 0, .string ⟨#[]⟩, .bool false, .bool false, .int .i64 0, .slice none 0 0, .slice none 0 0] 44 (0, 0)) := by rw [hw8]; exact heap_alloc_new _ _
      have hb8 : Below wr.heap.size wr w8 := by rw [hw8]; exact below_alR _ _
      rw [← hw8]
      clear hw8
      have hxr : xb < wr.heap.size := by omega
      have hY8 : w8.heap[xb]? = some (.cells #[.string ⟨#[]⟩, .slice none 0 0, .int .i64 0, .string ⟨#[]⟩, .bool false, .bool false, .int .i64 0, .slice none 0 0, .slice none 0 0] 44 (0, 0)) := (hb8.block xb hxr).trans HXr.out
      have HY8 := Lib.hid hY8
      have HB8 := Lib.hid hb8
      obtain ⟨sb, hsb⟩ : ∃ z, wr.heap.size = z := ⟨_, rfl⟩
      rw [hsb] at hX8 hxr ⊢
      have HSB := Lib.hid hsb
      have hne : sb ≠ xb := by omega
      obtain ⟨al, ac, af⟩ := boxN hX8
      obtain ⟨bl, bc, bf⟩ := boxN hY8
      have a0 := ac 0 _ rfl; have a1 := ac 1 _ rfl; have a2 := ac 2 _ rfl; have a3 := ac 3 _ rfl; have a4 := ac 4 _ rfl; have a5 := ac 5 _ rfl; have a6 := ac 6 _ rfl; have a7 := ac 7 _ rfl; have a8 := ac 8 _ rfl; simp only [Nat.zero_add] at a0 a1 a2 a3 a4 a5 a6 a7 a8
      have b0 := bc 0 _ rfl; have bz0 := bf 0; have b1 := bc 1 _ rfl; have bz1 := bf 1; have b2 := bc 2 _ rfl; have bz2 := bf 2; have b3 := bc 3 _ rfl; have bz3 := bf 3; have b4 := bc 4 _ rfl; have bz4 := bf 4; have b5 := bc 5 _ rfl; have bz5 := bf 5; have b6 := bc 6 _ rfl; have bz6 := bf 6; have b7 := bc 7 _ rfl; have bz7 := bf 7; have b8 := bc 8 _ rfl; have bz8 := bf 8; simp only [Nat.zero_add] at b0 b1 b2 b3 b4 b5 b6 b7 b8
      clear ac af bc bf hX8 hY8 hb8 hsb
      go_region_law (fail)
      all_goals
        have hS := set9 (v0 := .string ⟨#[]⟩) (v1 := .slice none 0 0) (v2 := .int .i64 0) (v3 := .string ⟨#[]⟩) (v4 := .bool false) (v5 := .bool false) (v6 := .int .i64 0) (v7 := .slice none 0 0) (v8 := .slice none 0 0) HY8.out
        obtain ⟨W6, hW6⟩ : ∃ z, z = (((((((((w8.setCell ⟨xb, 0, none⟩ (.string ⟨#[]⟩)).setCell ⟨xb, 1, none⟩ (.slice none 0 0)).setCell ⟨xb, 2, none⟩ (.int .i64 0)).setCell ⟨xb, 3, none⟩ (.string ⟨#[]⟩)).setCell ⟨xb, 4, none⟩ (.bool false)).setCell ⟨xb, 5, none⟩ (.bool false)).setCell ⟨xb, 6, none⟩ (.int .i64 0)).setCell ⟨xb, 7, none⟩ (.slice none 0 0)).setCell ⟨xb, 8, none⟩ (.slice none 0 0)) := ⟨_, rfl⟩
        rw [← hW6] at hS ⊢
        clear hW6
        obtain ⟨W7, hW7⟩ : ∃ z, z = W6.drew := ⟨_, rfl⟩
        rw [← hW7]
        obtain ⟨r9', rk'⟩ := hS
        have r9 : W7.heap[xb]? = some (.cells #[.string ⟨#[]⟩, .slice none 0 0, .int .i64 0, .string ⟨#[]⟩, .bool false, .bool false, .int .i64 0, .slice none 0 0, .slice none 0 0] 44 (0, 0)) := by rw [hW7]; exact r9'
        have rk : Kpt [xb] w8 W7 := by rw [hW7]; exact rk'.drew
        clear r9' rk'
        have HR9 := Lib.hid r9
        obtain ⟨-, rc, -⟩ := boxN r9
        have r0 := rc 0 _ rfl; have r1 := rc 1 _ rfl; have r2 := rc 2 _ rfl; have r3 := rc 3 _ rfl; have r4 := rc 4 _ rfl; have r5 := rc 5 _ rfl; have r6 := rc 6 _ rfl; have r7 := rc 7 _ rfl; have r8 := rc 8 _ rfl; simp only [Nat.zero_add] at r0 r1 r2 r3 r4 r5 r6 r7 r8
        have HRK := Lib.hid rk
        clear hW7 r9 rk rc a0 b0 bz0 a1 b1 bz1 a2 b2 bz2 a3 b3 bz3 a4 b4 bz4 a5 b5 bz5 a6 b6 bz6 a7 b7 bz7 a8 b8 bz8 bl al
        go_wp2_with fail
        refine bodyPost_ret (v := .tuple #[.string ⟨#[]⟩, .agg #[.string ⟨#[]⟩, .slice none 0 0, .int .i64 0, .string ⟨#[]⟩, .bool false, .bool false, .int .i64 0, .slice none 0 0, .slice none 0 0], .bool false]) (by simp [*, results, Try.results40, go_sem]) rfl ?_
        rw [← HE.out]
        have hz8 := HB8.out.size
        have hbb : Below w.heap.size w W7 := by
          rw [HXB.out]
          exact (HBr.out.trans (HB8.out.mono (by have := HSB.out; omega))).trans (HRK.out.below (fun z hz => by rw [List.mem_singleton.1 hz]; exact Nat.le_refl _) (show xb ≤ w8.heap.size by omega))
        exact ⟨_, _, _, _, _, _, _, _, _, rfl, ⟨_, _, _, rfl, RdX.nil _ _ _ _, RdX.nil _ _ _ _, RdX.nil _ _ _ _⟩, hbb⟩
end Go.Proofs.Ytjegocecgncpkaa.R
