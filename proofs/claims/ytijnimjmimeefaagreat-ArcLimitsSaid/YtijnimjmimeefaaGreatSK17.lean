/- Texts that the proof is made of, joined. No condition. -/
import Derived.Test.YtijnimjmimeefaaGreatSK15
import Derived.Test.YtijnimjmimeefaaGreatSK16
import Derived.Test.YtijnimjmimeefaaGreatSK9
set_option linter.unusedVariables false
set_option linter.unusedSimpArgs false
namespace Go.Proofs.YtijnimjmimeefaaGreat.A
open Go.RowKit Go.Proofs.YtijnimjmimeefaaGreat.D Go.Proofs.YtijnimjmimeefaaGreat.O
theorem rd_own {w : World} {v : Value} {l : List UInt8} (h : Rd w v l) : l = [] ∨ ∀ g, v.ownBlock = some g → g < w.heap.size := by
 obtain ⟨p, c, rfl, h1, h2, h3⟩ := h
 cases l with
 | nil => exact .inl rfl
 | cons x l =>
  right
  intro g hg
  cases p with
  | none => cases hg
  | some a =>
   have := World.block_lt_of_cell? _ _ (h3 a rfl 0 x rfl)
   cases hg
   exact this
theorem bytesOf_nat (l : List UInt8) : Lib.bytesOf (l.map fun b => (b.toNat : Int)) = l := by
 unfold Lib.bytesOf
 rw [List.map_map]
 conv => rhs; rw [← List.map_id l]
 refine List.map_congr_left fun b _ => ?_
 simp
theorem bytesIn_rd {w : World} {p : Option Addr} {n c : Nat} {l : List UInt8} (h : Rd w (.slice p n c) l) : Lib.BytesIn w p n (l.map fun b => (b.toNat : Int)) := by
 obtain ⟨q, k, e, h1, h2, h3⟩ := h
 simp only [Value.slice.injEq] at e
 obtain ⟨rfl, rfl, rfl⟩ := e
 cases p with
 | none =>
  have := h2 rfl
  have h0 : l.length = 0 := by omega
  rw [h0]
  exact Lib.BytesIn.nil _ _ _
 | some a =>
  refine Lib.BytesIn.of_cells fun i hi => ?_
  rw [h3 a rfl i _ (List.getElem?_eq_getElem hi), List.getD_eq_getElem?_getD, List.getElem?_map, List.getElem?_eq_getElem hi]
  rfl
theorem cut_any (v : Value) (l : List UInt8) (g : Nat) (w : World) (hr : Rd w v l) (hb : Rd w (.slice (some ⟨g, 0, none⟩) 4 4) bon) :
  Calls Tryz.prog 49 #[v, .slice (some ⟨g, 0, none⟩) 4 4] w fun e w' => ∃ v', e = .returned (.tuple #[v', .bool (bon.isPrefixOf l)]) ∧ (bon.isPrefixOf l = true → Rd w v' (l.drop 4)) ∧ w' = w ∧ ∃ p n c, v' = .slice p n c := by
 obtain ⟨p, c, rfl, h1, h2, h3⟩ := id hr
 refine (Tryz.bytes_CutPrefix_all p (some ⟨g, 0, none⟩) l.length c 4 4 (l.map fun b => (b.toNat : Int)) (bon.map fun b => (b.toNat : Int)) w (by simp) rfl h1 (bytesIn_rd hr) (bytesIn_rd hb)).mono ?_
 rintro e w' ⟨rfl, rfl⟩
 rw [bytesOf_nat, bytesOf_nat]
 refine ⟨_, rfl, fun hp => ?_, rfl, ?_⟩
 ·replace hp : bon.isPrefixOf l = true := hp
  obtain ⟨t, ht⟩ := List.isPrefixOf_iff_prefix.1 hp
  have hl : l.length = 4 + t.length := by rw [← ht]; simp [bon]; omega
  cases p with
  | none => have := h2 rfl; omega
  | some a =>
   obtain ⟨b, o, s⟩ := a
   have hs : s = none := by
    have hx := World.cell?_spot (h3 _ rfl 0 _ (List.getElem?_eq_getElem (by omega)))
    simpa [Addr.add] using hx
   subst hs
   have e1 : Lib.trimPrefixV (some ⟨b, o, none⟩) l.length c (l.map fun b => (b.toNat : Int)) (bon.map fun b => (b.toNat : Int)) = Lib.sliceFrom b o l.length c 4 := by
    show Lib.bytesTrimPrefix b o l.length c _ _ = _
    unfold Lib.bytesTrimPrefix
    rw [bytesOf_nat, bytesOf_nat, if_pos (show Lib.hasPrefix l bon = true from hp)]
    rfl
   rw [e1]
   unfold Lib.sliceFrom
   refine ⟨_, _, by rw [List.length_drop], by rw [List.length_drop]; omega, (fun h => by split at h <;> cases h), fun a ha i x hx => ?_⟩
   have hi : i < t.length := by
    have := (List.getElem?_eq_some_iff.1 hx).1
    rw [List.length_drop] at this
    omega
   rw [if_neg (by omega)] at ha
   cases ha
   rw [List.getElem?_drop] at hx
   have := h3 _ rfl (4 + i) x hx
   rw [Go.WideShapes.add_plain] at this ⊢
   rw [show o + 4 + i = o + (4 + i) by omega]
   exact this
 ·unfold Lib.trimPrefixV
  split
  ·unfold Lib.bytesTrimPrefix
   split
   ·exact ⟨_, _, _, rfl⟩
   ·exact ⟨_, _, _, rfl⟩
  ·exact ⟨_, _, _, rfl⟩
def ReadAnsA (bs : List UInt8) (w : World) (e : Ending) (w' : World) : Prop :=
 Below w.heap.size w w' ∧ match readA bs with
 | .ok a => ∃ p n c, e = .returned (.tuple #[.agg #[.slice p n c], .int .i64 0]) ∧ RdX 6 cP (fun b => w.heap.size ≤ b) w' (.slice p n c) a ∧ szA a ∧ wfA a
 | .error x => e = .returned (.tuple #[.agg #[.slice none 0 0], .int .i64 (x : Nat)])
theorem readA_pool {bs : List UInt8} {x : Nat} (h1 : bon.isPrefixOf bs = true) (h2 : pPool (bs.drop 4) = .error x) : readA bs = .error x := by
 unfold readA; rw [if_pos h1, h2]
theorem readA_arc {bs l : List UInt8} {L : List ByteArray} {x : Nat} (h1 : bon.isPrefixOf bs = true) (h2 : pPool (bs.drop 4) = .ok (L, l)) (h3 : pArc L l = .error x) : readA bs = .error x := by
 unfold readA; rw [if_pos h1, h2]; dsimp only; rw [h3]
theorem readA_fin {bs l r : List UInt8} {L : List ByteArray} {a : Arch} (h1 : bon.isPrefixOf bs = true) (h2 : pPool (bs.drop 4) = .ok (L, l)) (h3 : pArc L l = .ok (a, r)) : readA bs = if r = [] ∧ rightA a = true then .ok a else .error 21 := by
 unfold readA; rw [if_pos h1, h2]; dsimp only; rw [h3]
theorem took_error {α : Type} {p : Ps α} {l : List UInt8} {x : α} {e : Nat} (h : Took (adv p (.ok l)) x (.error e)) : p l = .error e := by
 unfold adv Took at h
 dsimp only at h
 cases hp : p l with
 | error y => rw [hp] at h; dsimp only at h; cases h; rfl
 | ok v => obtain ⟨y, r⟩ := v; rw [hp] at h; dsimp only at h; cases h.2
theorem took_ok {α : Type} {p : Ps α} {l r : List UInt8} {x : α} (h : Took (adv p (.ok l)) x (.ok r)) : p l = .ok (x, r) := by
 unfold adv Took at h
 dsimp only at h
 cases hp : p l with
 | error y => rw [hp] at h; dsimp only at h; cases h
 | ok v =>
  obtain ⟨y, s⟩ := v
  rw [hp] at h
  dsimp only at h
  obtain ⟨rfl, h2⟩ := h
  cases h2
  rfl
theorem cell1 {w : World} {b : Nat} {u : Value} {T : TypeId} (h : w.heap[b]? = some (.cells #[u] T (0, 0))) : b < w.heap.size ∧ w.cell? ⟨b, 0, none⟩ = some u ∧ w.frozen? ⟨b, 0, none⟩ = false := by
 refine ⟨(Array.getElem?_eq_some_iff.1 h).1, ?_, ?_⟩
 ·simp [World.cell?, h]
 ·simp [World.frozen?, h]
theorem set_below {w : World} {B b : Nat} {u : Value} (h : B ≤ b) (hB : B ≤ w.heap.size) : Below B w (w.setCell ⟨b, 0, none⟩ u) := (Kpt.set [b] w b 0 u (by simp)).below (fun x hx => by simp at hx; omega) hB
set_option maxHeartbeats 4000000 in
set_option maxRecDepth 100000 in
theorem read_a (v : Value) (bs : List UInt8) (w : World) (hr : Rd w v bs) (hl : bs.length ≤ 1000000) (hg : Glob w) :
  Calls Tryz.prog 22 #[v] w (ReadAnsA bs w) := by
 obtain ⟨p, cap, rfl, hcap, hn0, hc0⟩ := id hr
 have hA : Below w.heap.size w (w.alloc (.cells #[.slice none 0 0] 24)) := (Below.refl _ w).alloc (Nat.le_refl _) _
 have hs1 : (w.alloc (.cells #[.slice none 0 0] 24)).heap.size = w.heap.size + 1 := by simp
 have kc := Lib.run_convert_bytes_const (P := Tryz.prog) (w.alloc (.cells #[.slice none 0 0] 24)) 26 5 #[.int .u8 66, .int .u8 79, .int .u8 78, .int .u8 49] 4 4 Tryz.underlying26 Tryz.underlying5
 rw [hs1] at kc
 have hx0 : (w.alloc (.cells #[.slice none 0 0] 24)).heap[w.heap.size]? = some (.cells #[.slice none 0 0] 24 (0, 0)) := by simp only [World.alloc, Array.getElem?_push_size]
 have HX0 := Lib.hid hx0
 have HR := Lib.hid hr
 clear hr hc0 hn0 hx0
 go_enter Tryz.func22, Tryz.ntmps22
 go_wp2_with fail
 obtain ⟨wM, hM⟩ : ∃ wM, wM = (w.alloc (.cells #[.slice none 0 0] 24)).alloc (.cells #[.int .u8 66, .int .u8 79, .int .u8 78, .int .u8 49] 5 (4, 5)) := ⟨_, rfl⟩
 have hbM : Below (w.alloc (.cells #[.slice none 0 0] 24)).heap.size (w.alloc (.cells #[.slice none 0 0] 24)) wM := by rw [hM]; exact (Below.refl _ _).alloc (Nat.le_refl _) _
 have hrM : Rd wM (.slice (some ⟨w.heap.size + 1, 0, none⟩) 4 4) bon := by rw [hM, ← hs1]; exact bon_lit _ _ _
 have hBM : Below w.heap.size w wM := hA.trans (hbM.mono (by rw [hs1]; omega))
 have hszM : wM.heap.size = w.heap.size + 2 := by rw [hM]; simp
 have HXM : Hid (wM.heap[w.heap.size]? = some (.cells #[.slice none 0 0] 24 (0, 0))) := Lib.hid (by rw [hbM.block w.heap.size (by rw [hs1]; omega)]; exact HX0.out)
 have HRM := Lib.hid (HR.out.below hBM (rd_own HR.out))
 rw [← hM]
 have HB := Lib.hid hrM
 clear kc hM hbM hrM hs1 HR HX0 hA
 refine (cut_any _ bs (w.heap.size + 1) wM HRM.out HB.out).mono ?_
 rintro e w1 ⟨v1, rfl, hv1, rfl, p1, n1, c1, rfl⟩
 have hlt1 : w.heap.size < w1.heap.size := by omega
 have hc0 : w1.cell? ⟨w.heap.size, 0, none⟩ = some (.slice none 0 0) := by simp [World.cell?, HXM.out]
 have hf0 : w1.frozen? ⟨w.heap.size, 0, none⟩ = false := by simp [World.frozen?, HXM.out]
 have HV := Lib.hid hv1
 clear hv1 HRM HB
 cases hpre : bon.isPrefixOf bs with
 | false =>
  have HF : Hid (readA bs = .error 21) := Lib.hid (by unfold readA; rw [if_neg (by simp [hpre])])
  have hbS : Below w.heap.size w1 (w1.setCell ⟨w.heap.size, 0, none⟩ (.slice none 0 0)) := (Kpt.set [w.heap.size] w1 w.heap.size 0 _ (by simp)).below (fun x hx => by simp at hx; omega) (by omega)
  clear HXM hpre
  go_wp2_with fail
  refine bodyPost_ret (v := .tuple #[.agg #[.slice none 0 0], .int .i64 21]) (by simp [results, Tryz.results22, go_sem, hc0]) rfl ⟨?_, by rw [HF.out]; rfl⟩
  exact hBM.trans hbS
 | true =>
  have hrd := HV.out hpre
  obtain ⟨bs', hbs⟩ : ∃ l, l = bs.drop 4 := ⟨_, rfl⟩
  rw [← hbs] at hrd
  have hl' : bs'.length ≤ 1000000 := by rw [hbs, List.length_drop]; omega
  have HN := Lib.hid hrd
  clear hrd HV
  go_wp2_with fail
  refine (new_any _ bs' w1 HN.out (rd_own HN.out) (by omega)).mono ?_
  rintro e w2 ⟨rb, rfl, hrd2, hb2⟩
  rcases hP : poolR bs' 0 0 with ⟨L, kF, eF⟩
  obtain ⟨pl1, pl2, pl3⟩ := poolR_le (Nat.zero_le _) (by decide) hP
  obtain ⟨pp1, pp2⟩ := pPool_of hP
  have hR2 := hrd2.1
  have HRD := Lib.hid hrd2
  have HPL2 := Lib.hid pl2
  have HPP1 := Lib.hid pp1
  have HPP2 := Lib.hid pp2
  have HHP := Lib.hid hP
  clear hrd2 pl2 pp1 pp2 hP HN
  go_wp2_with fail
  refine (pread_any w1.heap.size rb bs' 0 0 L kF eF w2 HHP.out HRD.out (by decide) (by omega)).mono ?_
  rintro e w3 ⟨ha3, hr3, hk3⟩
  have hz2 := hb2.size
  have hz3 := hk3.size
  have hB3 : Below w.heap.size w w3 := (hBM.trans (hb2.mono (by omega))).trans (hk3.below (fun x hx => by simp at hx; omega) (by omega))
  have HX3 : Hid (w3.heap[w.heap.size]? = some (.cells #[.slice none 0 0] 24 (0, 0))) := Lib.hid (by
   rw [hk3.2 _ (by omega) (by simp; omega), hb2.block _ hlt1]
   exact HXM.out)
  obtain ⟨q3, c3, f3⟩ := cell1 HX3.out
  have HPRE := Lib.hid hpre
  clear hc0 hf0 HXM hpre
  by_cases he : eF = 0
  ·subst he
   unfold ReadAns at ha3
   rw [if_pos rfl] at ha3
   obtain ⟨pb, mb, sl, rfl, hpl⟩ := ha3
   have hfp := hpl.lt
   have hrlt : rb < w2.heap.size := (Array.getElem?_eq_some_iff.1 HRD.out.2.2.choose_spec.1).1
   obtain ⟨w4, hw4⟩ : ∃ w4, w4 = w3.alloc (.cells #[.pointer (some ⟨rb, 0, none⟩), .pointer (some ⟨pb, 0, none⟩), .bool false] 119) := ⟨_, rfl⟩
   have hb4 : Below w3.heap.size w3 w4 := by rw [hw4]; exact (Below.refl _ _).alloc (Nat.le_refl _) _
   have hs4 : w4.heap.size = w3.heap.size + 1 := by rw [hw4]; simp
   have hx4 : w4.heap[w3.heap.size]? = some (.cells #[.pointer (some ⟨rb, 0, none⟩), .pointer (some ⟨pb, 0, none⟩), .bool false] 119 (0, 0)) := by rw [hw4]; simp only [World.alloc, Array.getElem?_push_size]
   obtain ⟨C, hC⟩ : ∃ C : Cx, C = ⟨w1.heap.size, rb, w3.heap.size, pb, mb, sl, L, bs', w3.heap.size + 1⟩ := ⟨_, rfl⟩
   have hsrc : Src w4 C (.ok (bs'.drop kF)) := by
    subst hC
    refine ⟨⟨kF, 0, false, hr3.kpt (.of_below hb4 : Kpt [] w3 w4) (fun _ _ _ => by simp), by decide, hx4, rfl, rfl, rfl⟩, (hpl.kpt (.of_below hb4 : Kpt [] w3 w4) (fun _ _ => by simp)).mono (Nat.zero_le _), (show rb < w3.heap.size by omega), (show w3.heap.size < w3.heap.size + 1 by omega), fun x hx => ?_, (show bs'.length ≤ 30000000 by omega), (show L.length ≤ 10000 by omega), HPL2.out, (show w3.heap.size + 1 ≤ w4.heap.size by omega)⟩
    have := hfp x hx
    refine ⟨?_, ?_, ?_⟩ <;> dsimp only <;> omega
   have hsb : C.sb = w3.heap.size := by rw [hC]
   have HSB := Lib.hid hsb
   have hCL : C.L = L := by rw [hC]
   have hCbs : C.bs = bs' := by rw [hC]
   have HCL := Lib.hid hCL
   have HCB := Lib.hid hCbs
   have hCr : C.rb = rb := by rw [hC]
   have HCR := Lib.hid hCr
   have hCt : C.top = w3.heap.size + 1 := by rw [hC]
   have hB0 : 0 < C.B := by rw [hC]; show 0 < w1.heap.size; omega
   have hB4 : Below w.heap.size w w4 := hB3.trans (hb4.mono hB3.size)
   have hg4 : Glob w4 := hg.below hB4 (Nat.le_refl _)
   have HSRC := Lib.hid hsrc
   have HB3 := Lib.hid hB3
   have HB4 := Lib.hid hB4
   have HW4 := Lib.hid hb4
   have HBS := Lib.hid hs4
   have HQ := Lib.hid (And.intro q3 (And.intro hz2 (And.intro hz3 (And.intro hszM (And.intro hlt1 hrlt)))))
   have HR2 := Lib.hid hR2
   have HHL := Lib.hid hl'
   have HPP := Lib.hid (HPP1.out rfl)
   clear hx4 hfp hpl hr3 hk3 hsrc hCL hCr hCt hCbs hs4 hb4 hB3 hB4 hz2 hz3 hszM hlt1 hrlt hR2 hl' pl1 pl3 HPP1 HPP2 hb2 hBM HPL2 c3 f3 q3 hC
   go_wp2_with fail
   rw [← hw4, ← HSB.out]
   clear hsb hw4
   refine (list_cls C (fun s w h g => class_s C hB0 s w h g) _ 400 w4 HSRC.out hg4 hB0 (by decide)).mono ?_
   rintro e w5 ⟨v5, a, s5, rfl, ho5, hgd5, hn5, t5, hs5, hf5⟩
   obtain ⟨p5, n5, c5, hv5⟩ := ho5.slice
   subst hv5
   have HO5 := Lib.hid ho5
   have HT5 := Lib.hid t5
   have HS5 := Lib.hid hs5
   have HG5 := Lib.hid hgd5
   have HF5 := Lib.hid hf5
   clear ho5 t5 hs5 hgd5 hf5 hn5
   go_wp2_with fail
   obtain ⟨w6, hw6⟩ : ∃ w6, w6 = w5.alloc (.cells #[.slice p5 n5 c5] 24) := ⟨_, rfl⟩
   rw [← hw6]
   have hb6 : Below w5.heap.size w5 w6 := by rw [hw6]; exact (Below.refl _ _).alloc (Nat.le_refl _) _
   have hx6 : w6.heap[w5.heap.size]? = some (.cells #[.slice p5 n5 c5] 24 (0, 0)) := by rw [hw6]; simp only [World.alloc, Array.getElem?_push_size]
   have hsrc6 := HS5.out.below hb6
   have hs4 := HBS.out
   obtain ⟨q3, hz2, hz3, hszM, hlt1, hrlt⟩ := HQ.out
   have hR2 := HR2.out
   have hsz4 := HB4.out.size
   have hsz5 := HF5.out.size
   have hsz6 := hb6.size
   have hB5 : Below w.heap.size w w5 := HB4.out.trans (Kpt.below HF5.out (fun x hx => by simp [HSB.out, HCR.out] at hx; omega) hsz4)
   have hB6 : Below w.heap.size w w6 := hB5.trans (hb6.mono hB5.size)
   have HX6 : Hid (w6.heap[w.heap.size]? = some (.cells #[.slice none 0 0] 24 (0, 0))) := Lib.hid (by
    rw [hb6.block _ (by omega), HF5.out.2 _ (by omega) (by simp [HSB.out, HCR.out]; omega), HW4.out.block _ q3]
    exact HX3.out)
   have hRX := ((HO5.out.rd cP.grow).step cP.grow (fun _ h _ => h) (Keeps.of_below hb6) hb6.size).step (ok' := fun b => w.heap.size < b) cP.grow (fun b h _ => by show w.heap.size < b; omega) (fun _ _ _ => rfl) (Nat.le_refl _)
   have HO6 := Lib.hid hRX
   have HS6 := Lib.hid hsrc6
   have HB6 := Lib.hid hB6
   have hP4 : pPool (bs.drop 4) = .ok (L, bs'.drop kF) := by rw [← hbs]; exact HPP.out
   have HP4 := Lib.hid hP4
   have hg6 : Glob w6 := hg.below hB6 (Nat.le_refl _)
   have hlt6 : w.heap.size < w6.heap.size := by omega
   have HLE := Lib.hid (show w.heap.size ≤ w6.heap.size by omega)
   have hltx : w5.heap.size < w6.heap.size := (cell1 hx6).1
   have hnx : ¬ w5.heap.size = w.heap.size := by omega
   obtain ⟨-, c6, f6⟩ := cell1 hx6
   obtain ⟨-, c6', f6'⟩ := cell1 HX6.out
   clear hx6 hRX hsrc6 hP4 hB6 hB5 hb6 hw6 hsz5 hsz6 hs4 hz2 hz3 hszM hlt1 hrlt hR2 q3 hsz4 HQ HF5 HW4 HO5 HS5 HX3 HSRC hg4
   cases s5 with
   | error x =>
    have HF : Hid (readA bs = .error x) := Lib.hid (readA_arc HPRE.out HP4.out (by have := took_error HT5.out; rw [HCL.out] at this; exact this))
    have hx0 := Src.err_ne HS6.out
    have hd : (((x : Nat) : Int) != 0) = true := by simp; omega
    refine (err_s C _ w6 HS6.out).mono ?_
    rintro e w' ⟨rfl, rfl⟩
    simp only [errN]
    go_wp2_with fail
    refine (err_s C _ w6 HS6.out).mono ?_
    rintro e w' ⟨rfl, rfl⟩
    simp only [errN]
    go_wp2_with fail
    refine bodyPost_ret (v := .tuple #[.agg #[.slice none 0 0], .int .i64 x]) (by simp [results, Tryz.results22, go_sem, c6']) rfl ⟨?_, by rw [HF.out]⟩
    exact HB6.out.trans (set_below (Nat.le_refl _) HLE.out)
   | ok l =>
    have hpa : pArc L (bs'.drop kF) = .ok (a, l) := by have := took_ok HT5.out; rw [HCL.out] at this; exact this
    have hfin := readA_fin HPRE.out HP4.out hpa
    have hcost := arc_cost hpa
    rw [List.length_drop] at hcost
    have hl2 := HHL.out
    have HSM : Hid (formedB a = true → small a) := Lib.hid (fun _ => by unfold small; omega)
    have HZA : Hid (szA a) := Lib.hid (fun c hc => (HG5.out c hc).1)
    have HWA : Hid (wfA a) := Lib.hid (fun c hc => (HG5.out c hc).2)
    obtain ⟨⟨k, e, bey, h1, h2, h3, h4⟩, -⟩ := HS6.out
    obtain ⟨rfl, rfl, rfl⟩ := h4
    have HR6 := Lib.hid h1
    have HKL := Lib.hid h1.2.1
    have HFI := Lib.hid hfin
    have HCL2 : Hid (C.bs.length ≤ 40000000) := Lib.hid (by rw [HCB.out]; omega)
    clear hfin hpa h1 h2 h3 HT5 hcost hl2
    refine (err_s C _ w6 HS6.out).mono ?_
    rintro e w' ⟨rfl, rfl⟩
    simp only [errN]
    go_wp2_with fail
    rw [← HCR.out]
    refine (rdone_any C.B C.rb C.bs k 0 w6 HR6.out HCL2.out).mono ?_
    rintro e w7 ⟨rfl, dn, rfl⟩
    obtain ⟨w7, hw7⟩ : ∃ x, x = w6.drewN dn := ⟨_, rfl⟩
    rw [← hw7]
    have hb7 : Below w6.heap.size w6 w7 := by rw [hw7]; exact below_drewN (Below.refl _ _) _
    have HB7 : Hid (Below w.heap.size w w7) := Lib.hid (HB6.out.trans (hb7.mono HLE.out))
    have hg7 := hg6.below hb7 (Nat.le_refl _)
    have hx7 : w7.heap[w.heap.size]? = some (.cells #[.slice none 0 0] 24 (0, 0)) := by rw [hb7.block _ hlt6]; exact HX6.out
    have d6 : w7.cell? ⟨w5.heap.size, 0, none⟩ = some (.slice p5 n5 c5) := by rw [hb7.cell (p := ⟨w5.heap.size, 0, none⟩) hltx]; exact c6
    have hO7 := HO6.out.any cP.grow hb7
    have HX7 := Lib.hid hx7
    have HO7 := Lib.hid hO7
    have hlt7 : w.heap.size < w7.heap.size := Nat.lt_of_lt_of_le hlt6 hb7.size
    have hltx7 : w5.heap.size < w7.heap.size := Nat.lt_of_lt_of_le hltx hb7.size
    obtain ⟨-, e6, g6⟩ := cell1 hx7
    clear hx7 hO7 c6 f6 c6' f6' hlt6 hltx hb7 hw7 HX6 HO6 HB6 HLE HS6 HR6
    by_cases hkk : k = C.bs.length
    ·have HD0 : Hid (C.bs.drop k = []) := Lib.hid (by rw [hkk]; exact List.drop_length)
     have hdk : decide (0 = 0 ∧ k = C.bs.length) = true := by simp [hkk]
     rw [hdk]
     clear hkk hdk
     go_wp2_with fail
     refine (right_a a _ p5 n5 c5 w7 HZA.out HWA.out HSM.out hg7 HO7.out).mono ?_
     rintro e w8 ⟨rfl, hb8⟩
     have HB8 : Hid (Below w.heap.size w w8) := Lib.hid (HB7.out.trans (hb8.mono HB7.out.size))
     have hx8 : w8.heap[w.heap.size]? = some (.cells #[.slice none 0 0] 24 (0, 0)) := by rw [hb8.block _ hlt7]; exact HX7.out
     have d8 : w8.cell? ⟨w5.heap.size, 0, none⟩ = some (.slice p5 n5 c5) := by rw [hb8.cell (p := ⟨w5.heap.size, 0, none⟩) hltx7]; exact d6
     have HO8 := Lib.hid (HO7.out.any cP.grow hb8)
     obtain ⟨-, i6, j6⟩ := cell1 hx8
     have hlt8 : w.heap.size < w8.heap.size := Nat.lt_of_lt_of_le hlt7 hb8.size
     have hltx8 : w5.heap.size < w8.heap.size := Nat.lt_of_lt_of_le hltx7 hb8.size
     clear hx8 hb8 hg7 d6 e6 g6 hlt7 hltx7
     cases hR : rightA a with
     | false =>
      have HF : Hid (readA bs = .error 21) := Lib.hid (by rw [HFI.out, if_neg (by simp [hR])])
      go_wp2_with fail
      refine bodyPost_ret (v := .tuple #[.agg #[.slice none 0 0], .int .i64 21]) (by simp [results, Tryz.results22, go_sem, i6]) rfl ⟨?_, by rw [HF.out]; rfl⟩
      exact HB8.out.trans (set_below (Nat.le_refl _) HB8.out.size)
     | true =>
      have HF : Hid (readA bs = .ok a) := Lib.hid (by rw [HFI.out, if_pos ⟨HD0.out, hR⟩])
      go_wp2_with fail
      refine bodyPost_ret (v := .tuple #[.agg #[.slice p5 n5 c5], .int .i64 0]) (by simp [results, Tryz.results22, go_sem, i6]) rfl ⟨?_, ?_⟩
      ·exact HB8.out.trans (set_below (Nat.le_refl _) HB8.out.size)
      ·rw [HF.out]
       refine ⟨p5, n5, c5, rfl, ?_, HZA.out, HWA.out⟩
       have hk := Kpt.set [w.heap.size] w8 w.heap.size 0 (.slice p5 n5 c5) (by simp)
       exact (HO8.out.step cP.grow (ok' := fun b => w.heap.size ≤ b) (fun b h _ => Nat.le_of_lt h) (.of_kpt hk (fun b hb => by simp; omega)) hk.size)
    ·have HF : Hid (readA bs = .error 21) := Lib.hid (by
      rw [HFI.out, if_neg]
      rintro ⟨h, -⟩
      have h1 := congrArg List.length h
      rw [List.length_drop, List.length_nil] at h1
      exact hkk (by have := HKL.out; omega))
     have hdk : decide (0 = 0 ∧ k = C.bs.length) = false := by simp [hkk]
     rw [hdk]
     clear hkk hdk
     go_wp2_with fail
     refine bodyPost_ret (v := .tuple #[.agg #[.slice none 0 0], .int .i64 21]) (by simp [results, Tryz.results22, go_sem, e6]) rfl ⟨?_, by rw [HF.out]; rfl⟩
     exact HB7.out.trans (set_below (Nat.le_refl _) HB7.out.size)
  ·unfold ReadAns at ha3
   rw [if_neg he] at ha3
   subst ha3
   have HF : Hid (readA bs = .error eF) := Lib.hid (readA_pool HPRE.out (by rw [← hbs]; exact HPP2.out he))
   have hbS := fun u => set_below (w := w3) (B := w.heap.size) (b := w.heap.size) (u := u) (Nat.le_refl _) hB3.size
   have HR3 := Lib.hid hr3
   clear hr3 hk3 hb2
   go_wp2_with fail
   refine (rerr_any w1.heap.size rb bs' kF eF _ HR3.out).mono ?_
   rintro e w' ⟨rfl, rfl⟩
   go_wp2_with fail
   refine bodyPost_ret (v := .tuple #[.agg #[.slice none 0 0], .int .i64 eF]) (by simp [results, Tryz.results22, go_sem, c3]) rfl ⟨?_, by rw [HF.out]⟩
   exact hB3.trans (hbS _)
end Go.Proofs.YtijnimjmimeefaaGreat.A
namespace Go.Proofs.YtijnimjmimeefaaGreat.A
open Go.RowKit Go.Proofs.YtijnimjmimeefaaGreat.D Go.Proofs.YtijnimjmimeefaaGreat.O
theorem snip_len (k : Nat) (n : Int) (st : BS) : (snip k n st).1.length ≤ st.1.length + 16 ∧ (snip k n st).2.length ≤ st.2.length + 1 := by
 unfold snip
 split <;> simp [bAdd, bTry, bSet]
theorem roundS_len (a b : Nat) (st : BS) : (roundS a b st).1.length ≤ st.1.length + 18 ∧ (roundS a b st).2.length ≤ st.2.length + 1 := by
 have := snip_len (a % 40) b st
 unfold roundS
 split
 ·simp only [bAdd, List.length_append, List.length_cons, List.length_nil]
  omega
 ·omega
theorem drop2 {L : List Nat} {i a b : Nat} (ha : L[i]? = some a) (hb : L[i + 1]? = some b) : L.drop i = a :: b :: L.drop (i + 2) := by
 obtain ⟨h1, h2⟩ := List.getElem?_eq_some_iff.1 ha
 obtain ⟨h3, h4⟩ := List.getElem?_eq_some_iff.1 hb
 rw [List.drop_eq_getElem_cons h1, h2, List.drop_eq_getElem_cons h3, h4]
theorem rounds_next {L : List Nat} {i a b : Nat} {st st0 : BS} (hi : i % 2 = 0) (h40 : i < 40) (ha : L[i]? = some a) (hb : L[i + 1]? = some b) (h : roundsS (20 - i / 2) (L.drop i) st = roundsS 20 L st0) :
  roundsS (20 - (i + 2) / 2) (L.drop (i + 2)) (roundS a b st) = roundsS 20 L st0 := by
 rw [← h, drop2 ha hb, show 20 - i / 2 = (20 - (i + 2) / 2) + 1 by omega]
 rfl
theorem rounds_end {L : List Nat} {i : Nat} {st st0 : BS} (hi : i % 2 = 0) (h : roundsS (20 - i / 2) (L.drop i) st = roundsS 20 L st0) (he : L.length ≤ i + 1 ∨ 40 ≤ i) : st = roundsS 20 L st0 := by
 rw [← h]
 rcases he with he | he
 ·have : (L.drop i).length ≤ 1 := by rw [List.length_drop]; omega
  match hd : L.drop i, this with
  | [], _ => cases (20 - i / 2) <;> rfl
  | [a], _ => cases (20 - i / 2) <;> rfl
 ·rw [show 20 - i / 2 = 0 by omega]
  rfl
def bodyAns (l : List Nat) (w : World) (e : Ending) (w' : World) : Prop :=
 ∃ v1 v2, e = .returned (.tuple #[v1, v2]) ∧ OwnX 7 61 (sP insC) w' w.heap.size v1 (bodyS l).1 ∧ OwnX 4 66 (sP hndC) w' w.heap.size v2 (bodyS l).2 ∧ Below w.heap.size w w'
set_option maxHeartbeats 4000000 in
set_option maxRecDepth 100000 in
theorem body_p (P : Nat → Prop) (hnum : ∀ (B bb : Nat) (st : BS) (w0 w : World), Bs B bb st w0 w → ∀ k n : Nat, P k → k < 16 → n < 256 → st.1.length ≤ 50000 → st.2.length ≤ 50000 → Calls Tryz.prog 64 #[.pointer (some ⟨bb, 0, none⟩), .int .u8 (k : Int), .int .u8 (n : Int)] w fun e w' => e = .returned (.bool true) ∧ Bs B bb (snip k (n : Int) st) w0 w')
  (hno : ∀ (B bb : Nat) (st : BS) (w0 w : World), Bs B bb st w0 w → ∀ k n : Nat, P k → 16 ≤ k → k < 40 → Calls Tryz.prog 64 #[.pointer (some ⟨bb, 0, none⟩), .int .u8 (k : Int), .int .u8 (n : Int)] w fun e w' => e = .returned (.bool false) ∧ Bs B bb st w0 w')
  (hobj : ∀ (B bb : Nat) (st : BS) (w0 w : World), Bs B bb st w0 w → ∀ k n : Nat, P k → 16 ≤ k → k < 40 → n < 256 → st.1.length ≤ 50000 → st.2.length ≤ 50000 → Calls Tryz.prog 65 #[.pointer (some ⟨bb, 0, none⟩), .int .u8 (k : Int), .int .u8 (n : Int)] w fun e w' => e = .returned (.tuple #[]) ∧ Bs B bb (snip k (n : Int) st) w0 w')
  (bs : List UInt8) (hP : ∀ b ∈ bs, P (b.toNat % 40)) (v : Value) (w : World) (hr : Rd w v bs) (hl : bs.length ≤ 1000000) :
  Calls Tryz.prog 26 #[v] w (bodyAns (bs.map fun b => b.toNat) w) := by
 have HNUM := Lib.hid hnum
 have HNO := Lib.hid hno
 have HOBJ := Lib.hid hobj
 have HPB := Lib.hid hP
 clear hnum hno hobj hP
 obtain ⟨p, cap, rfl, hcap, hn0, hc0⟩ := id hr
 have HB : Hid (Bs w.heap.size w.heap.size ([], []) w (w.alloc (.cells #[.slice none 0 0, .slice none 0 0] 130))) := Lib.hid
  ⟨⟨_, _, heap_alloc_new _ _, Nat.le_refl _, OwnX.nil _ _ _ _ _, OwnX.nil _ _ _ _ _, (fun h => by cases h), (fun h => by cases h), fun g h => by cases h⟩, below_al _ _, by simp⟩
 have HC := Lib.hid hc0
 have HN := Lib.hid hn0
 obtain ⟨L, hL⟩ : ∃ L, L = bs.map fun b => b.toNat := ⟨_, rfl⟩
 have HL := Lib.hid hL
 obtain ⟨st0, hst⟩ : ∃ s : BS, s = ([iNum 1, iAt 5 0, iStr ⟨#[115]⟩, iAt 5 1, iNum 3, iOne 21, iAt 5 2, iOf 25 ⟨#[65]⟩, iAt 5 3, iOne 3, iAt 5 4], []) := ⟨_, rfl⟩
 have HST := Lib.hid hst
 have hst1 : st0.1.length ≤ 11 := by rw [hst]; decide
 have hst2 : st0.2.length ≤ 0 := by rw [hst]; decide
 rw [← hL]
 clear hr hc0 hn0 hL hst
 go_enter Tryz.func26, Tryz.ntmps26
 go_wp2_with ((first | (go_at_call 31; refine (one_x _ _).mono ?_) | (go_at_call 32; refine (at_x _ _ _).mono ?_) | (go_at_call 62; refine (num_x _ _ (by omega)).mono ?_) | (go_at_call 63; refine (str_x _ _).mono ?_) | (go_at_call 30; refine (of_x _ _ _).mono ?_) | (go_at_call 68; refine (part_x _ _ _ _).mono ?_) | (go_at_call 67; refine (call_x _ _ _ _ _).mono ?_) | (go_at_call 108; refine (word_v _ _ hn).mono ?_) | (go_at_call 110; refine (class_v _ _ hn).mono ?_)); rintro e w' ⟨rfl, hb⟩; (first | replace HB := Lib.hid (HB.out.next hb) | replace HB := Lib.hid ((HB.out.lit _).next hb)); clear hb)
 refine (add_s HB.out [iNum 1, iAt 5 0, iStr ⟨#[115]⟩, iAt 5 1, iNum 3, iOne 21, iAt 5 2, iOf 25 ⟨#[65]⟩, iAt 5 3, iOne 3, iAt 5 4] _ rfl _ rfl (by simp)).mono ?_
 rintro e w1 ⟨rfl, H1⟩
 rw [show bAdd [iNum 1, iAt 5 0, iStr ⟨#[115]⟩, iAt 5 1, iNum 3, iOne 21, iAt 5 2, iOf 25 ⟨#[65]⟩, iAt 5 3, iOne 3, iAt 5 4] ([], []) = st0 from HST.out.symm] at H1
 have HB1 := Lib.hid H1
 clear H1 HB
 go_wp2_with fail
 go_loopw [5] (fun v wr => ∃ (i : Nat) (st : BS), v = .int .i64 (i : Int) ∧ i % 2 = 0 ∧ i ≤ 40 ∧ st.1.length ≤ 11 + 9 * i ∧ st.2.length ≤ i ∧ Hid (roundsS (20 - i / 2) (L.drop i) st = roundsS 20 L st0) ∧ Hid (Bs w.heap.size w.heap.size st w wr)) (fun v _ => 40 - (intOf v).toNat)
 case atStart => exact ⟨0, st0, rfl, rfl, by omega, by omega, by omega, Lib.hid rfl, HB1⟩
 case round =>
  obtain ⟨i, st, rfl, hi2, hi40, hs1, hs2, HE, HB⟩ := hrel
  have hll : L.length = bs.length := by rw [HL.out, List.length_map]
  clear HB1
  by_cases hlt : i + 1 < bs.length ∧ i < 40
  ·obtain ⟨h1, h40⟩ := hlt
   have hax : bs[i]? = some bs[i] := List.getElem?_eq_getElem (by omega)
   have hbx : bs[i + 1]? = some bs[i + 1] := List.getElem?_eq_getElem (by omega)
   obtain ⟨⟨g, off, sp⟩, rfl⟩ : ∃ a, p = some a := by
    cases p with
    | none => have := HN.out rfl; omega
    | some a => exact ⟨a, rfl⟩
   obtain rfl : sp = none := by
    have hx := World.cell?_spot (HC.out _ rfl 0 _ (List.getElem?_eq_getElem (show 0 < bs.length by omega)))
    simpa [Addr.add] using hx
   have hca := HC.out _ rfl i _ hax
   have hcb := HC.out _ rfl (i + 1) _ hbx
   rw [Go.WideShapes.add_plain] at hca hcb
   have hgl := World.block_lt_of_cell? _ _ hca
   simp only at hgl
   rw [← HB.out.2.1.cell (p := ⟨g, _, none⟩) hgl] at hca hcb
   obtain ⟨a, ha⟩ : ∃ a : Nat, a = bs[i].toNat := ⟨_, rfl⟩
   obtain ⟨b, hb⟩ : ∃ b : Nat, b = bs[i + 1].toNat := ⟨_, rfl⟩
   have hca' : wr.cell? ⟨g, off + i, none⟩ = some (.int .u8 (a : Int)) := by rw [hca, ha]; rfl
   have hcb' : wr.cell? ⟨g, off + (i + 1), none⟩ = some (.int .u8 (b : Int)) := by rw [hcb, hb]; rfl
   have ha256 : a < 256 := by rw [ha]; exact bs[i].toNat_lt
   have hb256 : b < 256 := by rw [hb]; exact bs[i + 1].toNat_lt
   have HLA : Hid (L[i]? = some a) := Lib.hid (by rw [HL.out, List.getElem?_map, hax, ha]; rfl)
   have HLB : Hid (L[i + 1]? = some b) := Lib.hid (by rw [HL.out, List.getElem?_map, hbx, hb]; rfl)
   have HCA : Hid (w.cell? ⟨g, off + i, none⟩ = some (.int .u8 (a : Int))) := Lib.hid (by rw [← HB.out.2.1.cell (p := ⟨g, off + i, none⟩) hgl]; exact hca')
   have HCB : Hid (w.cell? ⟨g, off + (i + 1), none⟩ = some (.int .u8 (b : Int))) := Lib.hid (by rw [← HB.out.2.1.cell (p := ⟨g, off + (i + 1), none⟩) hgl]; exact hcb')
   have hrl := roundS_len a b st
   obtain ⟨hr1, hr2⟩ := hrl
   have HEN := Lib.hid (rounds_next hi2 h40 HLA.out HLB.out HE.out)
   obtain ⟨k, hk⟩ : ∃ k : Nat, k = a % 40 := ⟨_, rfl⟩
   have hki : (a : Int) % 40 = (k : Int) := by omega
   have hk40 : k < 40 := by omega
   have hkk : (k = 15 ∨ ¬ a = 255) := by omega
   have HK := Lib.hid hk
   have HPK : Hid (P k) := Lib.hid (by rw [hk, ha]; exact HPB.out _ (List.getElem_mem _))
   clear hca hcb ha hb hax hbx hk HE hll
   have hl1 : st.1.length ≤ 50000 := by omega
   have hl2 : st.2.length ≤ 50000 := by omega
   by_cases hk16 : k < 16
   ·go_wp2_with fail
    refine (HNUM.out _ _ _ _ _ HB.out k b HPK.out hk16 hb256 hl1 hl2).mono ?_
    rintro e w2 ⟨rfl, H1⟩
    have hca2 : w2.cell? ⟨g, off + i, none⟩ = some (.int .u8 (a : Int)) := by rw [H1.2.1.cell (p := ⟨g, off + i, none⟩) hgl]; exact HCA.out
    have hcb2 : w2.cell? ⟨g, off + (i + 1), none⟩ = some (.int .u8 (b : Int)) := by rw [H1.2.1.cell (p := ⟨g, off + (i + 1), none⟩) hgl]; exact HCB.out
    replace HB := Lib.hid H1
    clear H1 hca' hcb' hki
    by_cases h255 : a = 255
    ·subst h255
     have HR : Hid (roundS 255 b st = bAdd [iNum (b : Int), iOne 43] (snip k (b : Int) st)) := Lib.hid (by rw [HK.out]; rfl)
     have hs3 := (snip_len k (b : Int) st).1
     go_wp2_with ((first | (go_at_call 31; refine (one_x _ _).mono ?_) | (go_at_call 32; refine (at_x _ _ _).mono ?_) | (go_at_call 62; refine (num_x _ _ (by omega)).mono ?_) | (go_at_call 63; refine (str_x _ _).mono ?_) | (go_at_call 30; refine (of_x _ _ _).mono ?_) | (go_at_call 68; refine (part_x _ _ _ _).mono ?_) | (go_at_call 67; refine (call_x _ _ _ _ _).mono ?_) | (go_at_call 108; refine (word_v _ _ hn).mono ?_) | (go_at_call 110; refine (class_v _ _ hn).mono ?_)); rintro e w' ⟨rfl, hb⟩; (first | replace HB := Lib.hid (HB.out.next hb) | replace HB := Lib.hid ((HB.out.lit _).next hb)); clear hb)
     refine (add_s HB.out [iNum (b : Int), iOne 43] _ rfl _ rfl (by simp; omega)).mono ?_
     rintro e w3 ⟨rfl, H1⟩
     have HBF := Lib.hid H1
     clear H1 HB hca2 hcb2 hs3
     go_wp2_with fail
     go_roundw
     case rel => exact ⟨i + 2, roundS 255 b st, by go_num, by omega, by omega, by omega, by omega, HEN, by rw [HR.out]; exact HBF⟩
     case measure => simp [intOf]; omega
    ·have HR : Hid (roundS a b st = snip k (b : Int) st) := Lib.hid (by rw [HK.out]; unfold roundS; rw [if_neg h255])
     go_wp2_with fail
     go_roundw
     case rel => exact ⟨i + 2, roundS a b st, by go_num, by omega, by omega, by omega, by omega, HEN, by rw [HR.out]; exact HB⟩
     case measure => simp [intOf]; omega
   ·have h255 : ¬ a = 255 := by omega
    have HR : Hid (roundS a b st = snip k (b : Int) st) := Lib.hid (by rw [HK.out]; unfold roundS; rw [if_neg h255])
    go_wp2_with fail
    refine (HNO.out _ _ _ _ _ HB.out k b HPK.out (by omega) hk40).mono ?_
    rintro e w2 ⟨rfl, H1⟩
    have hca2 : w2.cell? ⟨g, off + i, none⟩ = some (.int .u8 (a : Int)) := by rw [H1.2.1.cell (p := ⟨g, off + i, none⟩) hgl]; exact HCA.out
    have hcb2 : w2.cell? ⟨g, off + (i + 1), none⟩ = some (.int .u8 (b : Int)) := by rw [H1.2.1.cell (p := ⟨g, off + (i + 1), none⟩) hgl]; exact HCB.out
    replace HB := Lib.hid H1
    clear H1 hca' hcb'
    go_wp2_with fail
    refine (HOBJ.out _ _ _ _ _ HB.out k b HPK.out (by omega) hk40 hb256 hl1 hl2).mono ?_
    rintro e w3 ⟨rfl, H1⟩
    have hca3 : w3.cell? ⟨g, off + i, none⟩ = some (.int .u8 (a : Int)) := by rw [H1.2.1.cell (p := ⟨g, off + i, none⟩) hgl]; exact HCA.out
    replace HB := Lib.hid H1
    clear H1 hca2 hcb2 hki
    go_wp2_with fail
    go_roundw
    case rel => exact ⟨i + 2, roundS a b st, by go_num, by omega, by omega, by omega, by omega, HEN, by rw [HR.out]; exact HB⟩
    case measure => simp [intOf]; omega
  ·have hend : L.length ≤ i + 1 ∨ 40 ≤ i := by omega
   have HST2 := Lib.hid (rounds_end hi2 HE.out hend)
   have HF : Hid (bodyS L = bAdd [iOne 40] st) := Lib.hid (by rw [HST2.out, HST.out]; rfl)
   clear hend hll
   by_cases hlt1 : i + 1 < bs.length
   ·have hge : ¬ i < 40 := fun h => hlt ⟨hlt1, h⟩
    go_wp2_with ((first | (go_at_call 31; refine (one_x _ _).mono ?_) | (go_at_call 32; refine (at_x _ _ _).mono ?_) | (go_at_call 62; refine (num_x _ _ (by omega)).mono ?_) | (go_at_call 63; refine (str_x _ _).mono ?_) | (go_at_call 30; refine (of_x _ _ _).mono ?_) | (go_at_call 68; refine (part_x _ _ _ _).mono ?_) | (go_at_call 67; refine (call_x _ _ _ _ _).mono ?_) | (go_at_call 108; refine (word_v _ _ hn).mono ?_) | (go_at_call 110; refine (class_v _ _ hn).mono ?_)); rintro e w' ⟨rfl, hb⟩; (first | replace HB := Lib.hid (HB.out.next hb) | replace HB := Lib.hid ((HB.out.lit _).next hb)); clear hb)
    refine (add_s HB.out [iOne 40] _ rfl _ rfl (by simp; omega)).mono ?_
    rintro e w3 ⟨rfl, ⟨vl, vh, h⟩, h2, h3⟩
    obtain ⟨p1, n1, k1, hv1⟩ := h.2.2.1.slice
    obtain ⟨p2, n2, k2, hv2⟩ := h.2.2.2.1.slice
    subst hv1 hv2
    obtain ⟨q1, c0, c1, f0, f1⟩ := h.cells
    have HH := Lib.hid h
    have HZ := Lib.hid h2
    clear h h2
    go_wp2_with fail
    go_quiet (fail)
    go_wp2_with fail
    go_ret2
    have hbq : Below w3.heap.size w3 (w3.drewN nq) := below_drewN (Below.refl _ _) _
    have hD := HH.out.below hbq
    exact ⟨_, _, rfl, by rw [HF.out]; exact hD.2.2.1, by rw [HF.out]; exact hD.2.2.2.1, below_drewN HZ.out _⟩
   ·go_wp2_with ((first | (go_at_call 31; refine (one_x _ _).mono ?_) | (go_at_call 32; refine (at_x _ _ _).mono ?_) | (go_at_call 62; refine (num_x _ _ (by omega)).mono ?_) | (go_at_call 63; refine (str_x _ _).mono ?_) | (go_at_call 30; refine (of_x _ _ _).mono ?_) | (go_at_call 68; refine (part_x _ _ _ _).mono ?_) | (go_at_call 67; refine (call_x _ _ _ _ _).mono ?_) | (go_at_call 108; refine (word_v _ _ hn).mono ?_) | (go_at_call 110; refine (class_v _ _ hn).mono ?_)); rintro e w' ⟨rfl, hb⟩; (first | replace HB := Lib.hid (HB.out.next hb) | replace HB := Lib.hid ((HB.out.lit _).next hb)); clear hb)
    refine (add_s HB.out [iOne 40] _ rfl _ rfl (by simp; omega)).mono ?_
    rintro e w3 ⟨rfl, ⟨vl, vh, h⟩, h2, h3⟩
    obtain ⟨p1, n1, k1, hv1⟩ := h.2.2.1.slice
    obtain ⟨p2, n2, k2, hv2⟩ := h.2.2.2.1.slice
    subst hv1 hv2
    obtain ⟨q1, c0, c1, f0, f1⟩ := h.cells
    have HH := Lib.hid h
    have HZ := Lib.hid h2
    clear h h2
    go_wp2_with fail
    go_quiet (fail)
    go_wp2_with fail
    go_ret2
    have hbq : Below w3.heap.size w3 (w3.drewN nq) := below_drewN (Below.refl _ _) _
    have hD := HH.out.below hbq
    exact ⟨_, _, rfl, by rw [HF.out]; exact hD.2.2.1, by rw [HF.out]; exact hD.2.2.2.1, below_drewN HZ.out _⟩
theorem body_k (bs : List UInt8) (hP : ∀ b ∈ bs, b.toNat % 40 = 0 ∨ b.toNat % 40 = 4 ∨ b.toNat % 40 = 1 ∨ b.toNat % 40 = 2) (v : Value) (w : World) (hr : Rd w v bs) (hl : bs.length ≤ 1000000) : Calls Tryz.prog 26 #[v] w (bodyAns (bs.map fun b => b.toNat) w) :=
 body_p (fun k => k = 0 ∨ k = 4 ∨ k = 1 ∨ k = 2) (fun _ _ _ _ _ H k n h _ hn hl hl2 => by
  rcases h with rfl | rfl | rfl | rfl
  ·exact snip_0 H n hn hl hl2
  ·exact snip_4 H n hn hl hl2
  ·exact snip_1 H n hn hl hl2
  ·exact snip_2 H n hn hl hl2) (fun _ _ _ _ _ _ k n h h0 hk => by omega) (fun _ _ _ _ _ _ k n h h0 hk => by omega) bs hP v w hr hl
end Go.Proofs.YtijnimjmimeefaaGreat.A
