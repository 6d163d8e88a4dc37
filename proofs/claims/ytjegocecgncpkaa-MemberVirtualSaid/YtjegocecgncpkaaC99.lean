/- Texts that the proof is made of, joined. No condition. -/
import Derived.Test.YtjegocecgncpkaaC90
import Derived.Below
import Derived.Deep.RegionHeld3
import Derived.Shelf.Strings.BuilderX
import Derived.Test.YtjegocecgncpkaaC98
import Derived.Test.YtjegocecgncpkaaC93
import Derived.BigRegion
import Derived.Test.YtjegocecgncpkaaC9H
set_option linter.unusedVariables false
set_option linter.unusedSimpArgs false
set_option maxRecDepth 100000
set_option maxHeartbeats 16000000
namespace Go.Proofs.Ytjegocecgncpkaa.D
open Go.RowKit
set_option maxHeartbeats 1000000 in
set_option maxRecDepth 100000 in
set_option maxRecDepth 100000 in
theorem bld_check_fresh (b : Nat) (w : World) (h0 : w.cell? ⟨b, 0, none⟩ = some (.pointer none)) (hsh : w.shape? b = some (127, 2)) (hfz : w.frozen? ⟨b, 0, none⟩ = false) :
    Calls Try.prog 84 #[.pointer (some ⟨b, 0, none⟩)] w fun e w' => e = .returned (.tuple #[]) ∧ w' = w.setCell ⟨b, 0, none⟩ (.pointer (some ⟨b, 0, none⟩)) := by
  obtain ⟨j, hj, hjs⟩ := Option.map_eq_some_iff.1 bld_size
  go_enter Try.func84, Try.ntmps84
  go_wp2_with fail
  rw [Lib.run_to_unsafe w ⟨b, 0, none⟩ bld_ptr bld_uns hj (by rw [hjs]; decide) hsh (Nat.zero_lt_succ 1)]
  simp only [Result.andThen]
  rw [Oper.upon_value]
  go_wp2_with fail
  rw [run_callFunc_extern Try.func86 (by kernel_rfl) (by kernel_rfl) (by kernel_rfl) (e := Extern.AbiNoEscape.same) (by kernel_rfl)]
  rw [Lib.run_noEscape]
  simp only [Result.andThen]
  rw [Oper.upon_value]
  go_wp2_with fail
  rw [Lib.run_from_unsafe w ⟨b, 0, none⟩ bld_uns bld_ptr hj hsh bld_lies]
  simp only [Result.andThen]
  rw [Oper.upon_value]
  go_wp2_with fail
  go_end0
  exact ⟨rfl, rfl⟩
set_option maxRecDepth 100000 in
theorem bld_check (B b : Nat) (l : List UInt8) (w : World) (h : Bld w B b l) :
    Calls Try.prog 84 #[.pointer (some ⟨b, 0, none⟩)] w fun e w' => e = .returned (.tuple #[]) ∧ Lib.BuilderAt 127 5 B b (.pointer (some ⟨b, 0, none⟩)) (Lib.byteCells l) w' ∧ Below B w w' := by
  rcases h with h | h
  · refine (bld_check_fresh b w h.cell0 h.shape h.frozen0).mono ?_
    rintro e w' ⟨rfl, rfl⟩
    exact ⟨rfl, h.used _, (Below.refl B w).setCell (p := ⟨b, 0, none⟩) h.1 _⟩
  · refine (bld_check_used b w h.cell0).mono ?_
    rintro e w' ⟨rfl, rfl⟩
    exact ⟨rfl, h, Below.refl B _⟩
set_option maxHeartbeats 2000000 in
set_option maxRecDepth 100000 in
set_option maxRecDepth 100000 in
theorem bld_byte (B b : Nat) (l : List UInt8) (c : Int) (x : UInt8) (hx : c = (x.toNat : Int)) (w : World) (h : Bld w B b l) (hlen : l.length + 1 ≤ 140737488355328) (hBw : B ≤ w.heap.size) :
    Calls Try.prog 78 #[.pointer (some ⟨b, 0, none⟩), .int .u8 c] w fun e w' => e = .returned .nilIface ∧ Bld w' B b (l ++ [x]) ∧ Below B w w' := by
  obtain ⟨i0, hi, hz0, hz1, hz2⟩ := info_parts bld_info
  have HX := Lib.hid hx
  clear hx
  go_enter Try.func78, Try.ntmps78
  go_wp2_with (go_at_call 84; refine (bld_check B b l _ h).mono ?_)
  rintro e w1 ⟨rfl, h1, hb1⟩
  obtain ⟨hB, v, hbk, hown, hne⟩ := h1
  have hs1 := hb1.size
  have c0 : w1.cell? ⟨b, 0, none⟩ = some (.pointer (some ⟨b, 0, none⟩)) := by rw [Lib.cell_of_heap hbk]; rfl
  have c1 : w1.cell? ⟨b, 1, none⟩ = some v := by rw [Lib.cell_of_heap hbk]; rfl
  go_wp2_with (at_builtin; refine wpList_append_own _ rfl _ _ 52 rfl B 5 i0 (.int .u8 0) 1 1 Try.underlying52 hi hz0 hz1 hz2 rfl (by decide) _ _ _ rfl (hown.alloc _) ⟨w1.heap.size, 0, none⟩ 1 1 [.int .u8 c] rfl rfl ?c1 ?c2 ?c3 ?c4 ?c5 ?_)
  case c1 =>
    intro j u hj
    match j, hj with
    | 0, hj => simp at hj; subst hj; simp [Addr.add]
  case c2 => intro u hu; simp at hu; subst hu; rfl
  case c3 => rw [Lib.byteCells_length]; unfold maxLen; omega
  case c4 => rw [Lib.byteCells_length]; omega
  case c5 => simp; omega
  intro v' w2 hown' hgrow _
  have hlt : b < w1.heap.size := by
    rcases Nat.lt_or_ge b w1.heap.size with h' | h'
    · exact h'
    · simp [Array.getElem?_eq_none h'] at hbk
  have hb2 : w2.heap[b]? = some (.cells #[.pointer (some ⟨b, 0, none⟩), v] 127 (0, 0)) := by
    rw [hgrow.block b (by simp; omega) (fun e => hne e.symm), Lib.alloc_old w1 _ b hlt]
    exact hbk
  have d0 : w2.cell? ⟨b, 0, none⟩ = some (.pointer (some ⟨b, 0, none⟩)) := by rw [Lib.cell_of_heap hb2]; rfl
  have d1 : w2.cell? ⟨b, 1, none⟩ = some v := by rw [Lib.cell_of_heap hb2]; rfl
  have f1 : w2.frozen? ⟨b, 1, none⟩ = false := Lib.frozen_of_heap hb2 1
  obtain ⟨g, cap, rfl⟩ : ∃ g cap, v' = .slice (some ⟨g, 0, none⟩) ((Lib.byteCells l).length + 1) cap := by
    rcases hown'.2 with ⟨_, h0⟩ | ⟨g, cap, cur, hv, _⟩
    · omega
    · exact ⟨g, cap, hv⟩
  go_wp2_with fail
  go_ret
  have e : Lib.byteCells (l ++ [x]) = Lib.byteCells l ++ [.int .u8 c] := by rw [HX.out]; simp [Lib.byteCells]
  refine ⟨rfl, .inr ?_, ?_⟩
  · rw [e]
    exact Lib.BuilderAt.put (T := 127) (e := 5) hB hb2 (bs' := Lib.byteCells l ++ [.int .u8 c]) (by simpa using hown') (by decide)
  · exact ((hb1.alloc (by omega) _).grown hgrow (by simp; omega) (fun k hk => (hown.lt k hk).1)).setCell (p := ⟨b, 1, none⟩) hB _
set_option maxHeartbeats 2000000 in
set_option maxRecDepth 100000 in
set_option maxRecDepth 100000 in
theorem bld_str (B b : Nat) (l : List UInt8) (s : ByteArray) (w : World) (h : Bld w B b l) (hlen : l.length + s.size ≤ 140737488355328) (hBw : B ≤ w.heap.size) :
    Calls Try.prog 79 #[.pointer (some ⟨b, 0, none⟩), .string s] w fun e w' => e = .returned (.tuple #[.int .i64 s.size, .nilIface]) ∧ Bld w' B b (l ++ s.data.toList) ∧ Below B w w' := by
  obtain ⟨i0, hi, hz0, hz1, hz2⟩ := info_parts bld_info
  go_enter Try.func79, Try.ntmps79
  go_wp2_with (go_at_call 84; refine (bld_check B b l _ h).mono ?_)
  rintro e w1 ⟨rfl, h1, hb1⟩
  obtain ⟨hB, v, hbk, hown, hne⟩ := h1
  have hs1 := hb1.size
  have c0 : w1.cell? ⟨b, 0, none⟩ = some (.pointer (some ⟨b, 0, none⟩)) := by rw [Lib.cell_of_heap hbk]; rfl
  have c1 : w1.cell? ⟨b, 1, none⟩ = some v := by rw [Lib.cell_of_heap hbk]; rfl
  go_wp2_with (at_builtin; refine Lib.wpList_append_own_string _ rfl _ _ 52 9 rfl B 5 i0 Try.underlying52 Try.underlying9 hi hz0 hz1 hz2 _ _ _ rfl hown s rfl ?c3 ?c4 ?c5 ?_)
  case c3 => rw [Lib.byteCells_length]; unfold maxLen; omega
  case c4 => rw [Lib.byteCells_length]; omega
  case c5 => omega
  intro v' w2 hown' hgrow _
  have hlt : b < w1.heap.size := by
    rcases Nat.lt_or_ge b w1.heap.size with h' | h'
    · exact h'
    · simp [Array.getElem?_eq_none h'] at hbk
  have hb2 : w2.heap[b]? = some (.cells #[.pointer (some ⟨b, 0, none⟩), v] 127 (0, 0)) := by
    rw [hgrow.block b hlt (fun e => hne e.symm)]
    exact hbk
  have d0 : w2.cell? ⟨b, 0, none⟩ = some (.pointer (some ⟨b, 0, none⟩)) := by rw [Lib.cell_of_heap hb2]; rfl
  have d1 : w2.cell? ⟨b, 1, none⟩ = some v := by rw [Lib.cell_of_heap hb2]; rfl
  have f1 : w2.frozen? ⟨b, 1, none⟩ = false := Lib.frozen_of_heap hb2 1
  obtain ⟨ao, n', cap, rfl⟩ : ∃ ao n' cap, v' = .slice ao n' cap := by
    rcases hown'.2 with ⟨hv, _⟩ | ⟨g, cap, cur, hv, _⟩
    · exact ⟨_, _, _, hv⟩
    · exact ⟨_, _, _, hv⟩
  go_wp2_with fail
  go_ret2
  have e : Lib.byteCells (l ++ s.data.toList) = Lib.byteCells l ++ Lib.strCells s := by simp [Lib.byteCells, Lib.strCells]
  refine ⟨rfl, .inr ?_, ?_⟩
  · rw [e]
    exact Lib.BuilderAt.put (T := 127) (e := 5) hB hb2 (bs' := Lib.byteCells l ++ Lib.strCells s) (by simpa [Lib.strCells_length] using hown') (by decide)
  · exact (hb1.grown hgrow (by omega) (fun k hk => (hown.lt k hk).1)).setCell (p := ⟨b, 1, none⟩) hB _
set_option maxHeartbeats 1000000 in
theorem of_any (v : Value) (ts : List Ty) (k0 : Int) (c0 : ByteArray) (w : World) (hr : RdT w v ts) (hlen : ts.length ≤ 1000) (hc : ∀ u ∈ ts, u.2.size ≤ 1000000) (ht : c0.size ≤ 1000000) :
    Calls Try.prog 67 #[v, .agg #[.int .i64 k0, .string c0]] w fun e w' => e = .returned (.string (bx (ofL ts (k0, c0)))) ∧ Below w.heap.size w w' := by
  obtain ⟨p, cap, rfl, h1, h2, h3⟩ := id hr
  have HC := Lib.hid hc
  have HT : Hid (∀ k, ((ts.take k).flatMap typeL).length ≤ ts.length * 1000002) := Lib.hid (fun k => flat_take_len ts k 1000000 hc)
  have HL := Lib.hid (typeL_len (k0, c0))
  have HR := Lib.hid hr
  clear hc hr h1 h2 h3
  go_enter Try.func67, Try.ntmps67
  go_wp2_with fail
  refine (bld_byte (w.heap.size + 1) (w.heap.size + 1) [] 40 40 rfl _ ?_ (by decide) (by simp)).mono ?_
  · have := bld_new (w.alloc (.cells #[.int .i64 k0, .string c0] 35))
    simpa using this
  rintro e w1 ⟨rfl, hB1, hb1⟩
  have hbl1 : Below (w.heap.size + 1) (w.alloc (.cells #[.int .i64 k0, .string c0] 35)) w1 := ((Below.refl _ _).alloc (by simp) _).trans hb1
  clear hb1
  go_wp2_with fail
  go_loopw [11] (fun i wr => ∃ k : Nat, k ≤ ts.length ∧ i = .int .i64 k ∧ Bld wr (w.heap.size + 1) (w.heap.size + 1) (40 :: (ts.take k).flatMap typeL) ∧ Below (w.heap.size + 1) (w.alloc (.cells #[.int .i64 k0, .string c0] 35)) wr) (fun i _ => ts.length - (intOf i).toNat)
  case atStart => exact ⟨0, Nat.zero_le _, rfl, by simpa using hB1, hbl1⟩
  case round =>
    clear hB1 hbl1
    obtain ⟨k, hk, rfl, hB, hbl⟩ := hrel
    have hs := hbl.size
    simp at hs
    by_cases hlt : k < ts.length
    · obtain ⟨⟨x0, x1⟩, hx⟩ : ∃ t, ts[k]? = some t := ⟨_, List.getElem?_eq_getElem hlt⟩
      have hr2 := HR.out.below (((Below.refl w.heap.size w).alloc (Nat.le_refl _) (.cells #[.int .i64 k0, .string c0] 35)).trans (hbl.mono (by omega))) (Nat.le_refl _)
      obtain ⟨p', cap', e', g1, _, g3⟩ := hr2
      simp only [Value.slice.injEq, true_and] at e'
      obtain ⟨rfl, rfl⟩ := e'
      obtain ⟨⟨b, off, spot⟩, rfl⟩ : ∃ a, p = some a := by
        cases p with
        | none =>
          obtain ⟨p'', _, e'', _, g2, _⟩ := HR.out
          simp only [Value.slice.injEq] at e''
          have := g2 e''.1.symm
          subst this
          simp at hlt
        | some a => exact ⟨a, rfl⟩
      obtain rfl : spot = none := g1 _ rfl (fun e => by subst e; simp at hlt)
      obtain ⟨cx0, cx1⟩ := g3 _ rfl k _ hx
      simp only at cx0 cx1
      have hx1 := HC.out _ (List.mem_of_getElem? hx)
      simp only at hx1
      have HX := Lib.hid (flat_take ts k _ hx)
      have hTL := HT.out k
      have hTy := typeL_len (x0, x1)
      simp only at hTy
      clear g1 g3 hx
      go_wp2_with fail
      refine (type_any x0 x1 _ (by omega)).mono ?_
      rintro e w2 ⟨rfl, hb2⟩
      have hB2 := hB.below (((Below.refl wr.heap.size wr).alloc (Nat.le_refl _) _).trans (hb2.mono (by simp))) (Nat.le_refl _)
      have hs2 := hb2.size
      simp at hs2
      go_wp2_with fail
      refine (bld_str _ _ _ _ _ hB2 ?_ ?_).mono ?_
      · show _ + (typeT x0 x1).size ≤ _
        rw [Lib.size_eq]
        show _ + (typeL (x0, x1)).length ≤ _
        simp only [List.length_cons]
        omega
      · omega
      rintro e w3 ⟨rfl, hB3, hb3⟩
      have hbl3 : Below (w.heap.size + 1) (w.alloc (.cells #[.int .i64 k0, .string c0] 35)) w3 := ((hbl.alloc (by omega) _).trans (hb2.mono (by simp; omega))).trans hb3
      have hB3' : Bld w3 (w.heap.size + 1) (w.heap.size + 1) (40 :: (ts.take (k + 1)).flatMap typeL) := by rw [HX.out]; exact hB3
      clear hB3 hb3 hbl hB hB2 hb2 hTL hTy hs2 cx0 cx1
      go_wp2_with fail
      go_roundw
      case rel => exact ⟨k + 1, by omega, by go_num, hB3', hbl3⟩
      case measure => simp [intOf]; omega
    · have hkk : k = ts.length := by omega
      have hTL := HT.out k
      have HK : Hid ((ts.take k).flatMap typeL = ts.flatMap typeL) := Lib.hid (by rw [List.take_of_length_le (by omega)])
      have hTy := HL.out
      have hc0 : wr.cell? ⟨w.heap.size, 0, none⟩ = some (.int .i64 k0) := (hbl.cell (p := ⟨w.heap.size, 0, none⟩) (by simp)).trans (by simp)
      have hc1 : wr.cell? ⟨w.heap.size, 1, none⟩ = some (.string c0) := (hbl.cell (p := ⟨w.heap.size, 1, none⟩) (by simp)).trans (by simp)
      clear hkk
      go_wp2_with fail
      refine (bld_byte (w.heap.size + 1) (w.heap.size + 1) _ 41 41 rfl _ hB (by simp only [List.length_cons]; omega) (by omega)).mono ?_
      rintro e w4 ⟨rfl, hB4, hb4⟩
      have hd0 : w4.cell? ⟨w.heap.size, 0, none⟩ = some (.int .i64 k0) := (hb4.cell (p := ⟨w.heap.size, 0, none⟩) (by simp)).trans hc0
      have hd1 : w4.cell? ⟨w.heap.size, 1, none⟩ = some (.string c0) := (hb4.cell (p := ⟨w.heap.size, 1, none⟩) (by simp)).trans hc1
      have hs4 := hb4.size
      have hbl4 := hbl.trans hb4
      clear hc0 hc1 hB hbl hb4
      go_wp2_with fail
      refine (type_any k0 c0 _ (by omega)).mono ?_
      rintro e w5 ⟨rfl, hb5⟩
      have hB5 := hB4.below hb5 (Nat.le_refl _)
      have hs5 := hb5.size
      have hbl5 := hbl4.trans (hb5.mono (by omega))
      clear hd0 hd1 hB4 hbl4 hb5
      go_wp2_with fail
      refine (bld_str _ _ _ _ _ hB5 ?_ ?_).mono ?_
      · show _ + (typeT k0 c0).size ≤ _
        rw [Lib.size_eq]
        show _ + (typeL (k0, c0)).length ≤ _
        simp only [List.length_cons, List.length_append, List.length_nil]
        omega
      · omega
      rintro e w6 ⟨rfl, hB6, hb6⟩
      have hs6 := hb6.size
      have hbl6 := hbl5.trans hb6
      clear hB5 hbl5 hb6
      go_wp2_with fail
      refine (bld_done _ _ _ _ hB6 (by omega)).mono ?_
      rintro e w7 ⟨rfl, hb7⟩
      go_wp2_with fail
      go_ret
      refine ⟨ret_str ?_, (((Below.refl w.heap.size w).alloc (Nat.le_refl _) _).trans ((hbl6.trans hb7).mono (by omega)))⟩
      rw [HK.out]
      show (⟨(_ : List UInt8).toArray⟩ : ByteArray) = bx (ofL ts (k0, c0))
      unfold bx ofL typeL
      simp
end Go.Proofs.Ytjegocecgncpkaa.D
namespace Go.Proofs.Ytjegocecgncpkaa.R
open Go.RowKit Go.Proofs.Ytjegocecgncpkaa.D Go.Proofs.Ytjegocecgncpkaa.O Go.Proofs.Ytjegocecgncpkaa.A
def SzM (m : Mth) : Prop := m.params.length ≤ 1000 ∧ (∀ u ∈ m.params, u.2.size ≤ 1000000) ∧ m.ret.2.size ≤ 1000000
theorem rdT_m {ok : Nat → Prop} {w : World} {v : Value} {ts : List Ty} (h : RdX 2 (sP tyC) ok w v ts) : RdT w v ts := by
  obtain ⟨p, cap, rfl, h1, h2, h3⟩ := h
  rcases h3 with rfl | ⟨b, off, rfl, hb, hlt, hc⟩
  · exact ⟨p, cap, rfl, (fun a ha hn => absurd rfl hn), fun _ => rfl, fun a ha i t ht => by simp at ht⟩
  · refine ⟨_, cap, rfl, (fun a ha _ => by cases ha; rfl), (fun h => by cases h), fun a ha i t ht => ?_⟩
    cases ha
    exact CellsAt.two (sP_at (ok := ok) (hc i t ht))
set_option maxHeartbeats 2000000 in
theorem named_m (m : Mth) (pp pc ph : Option Addr) (np cp nc cc nh ch : Nat) (name d : ByteArray) (ok : Nat → Prop) (w : World) (hm : RdX 2 (sP tyC) ok w (.slice pp np cp) m.params) (hz : SzM m) :
    Calls Try.prog 39 #[.agg #[.string m.name, .slice pp np cp, .int .i64 m.ret.1, .string m.ret.2, .bool m.st, .bool m.ab, .int .i64 m.locals, .slice pc nc cc, .slice ph nh ch], .string name, .string d] w fun e w' => e = .returned (.bool (mthQ name d m)) ∧ Below w.heap.size w w' := by
  have HR := Lib.hid hm
  have HZ := Lib.hid hz
  clear hm hz
  obtain ⟨D, hD⟩ : ∃ x, bx (ofL m.params m.ret) = x := ⟨_, rfl⟩
  have HQ : Hid (mthQ name d m = (decide (m.name = name) && decide (D = d))) := Lib.hid (by rw [← hD]; rfl)
  have HOF := Lib.hid (fun W (hb : Below w.heap.size w W) => of_any (.slice pp np cp) m.params m.ret.1 m.ret.2 W (rdT_m (HR.out.any (sP.grow _) hb)) HZ.out.1 HZ.out.2.1 HZ.out.2.2)
  have HDD := Lib.hid hD
  clear hD
  by_cases hn : m.name = name
  · have he := Go.Proofs.Ytjegocecgncpkaa.txt_eq hn
    have HN := Lib.hid hn
    clear hn
    by_cases hd : D = d
    · have he2 := Go.Proofs.Ytjegocecgncpkaa.txt_eq hd
      have HD := Lib.hid hd
      clear hd
      go_enter Try.func39, Try.ntmps39
      go_wp2_with (go_at_call 67; refine (HOF.out _ (below_alR _ _)).mono ?_; rw [HDD.out]; rintro e w1 ⟨rfl, hb1⟩)
      go_ret
      exact ⟨by rw [HQ.out, HN.out, HD.out]; simp, (below_alR _ _).trans (hb1.mono (by simp))⟩
    · have he2 := Go.Proofs.Ytjegocecgncpkaa.txt_ne hd
      have HD := Lib.hid hd
      clear hd
      go_enter Try.func39, Try.ntmps39
      go_wp2_with (go_at_call 67; refine (HOF.out _ (below_alR _ _)).mono ?_; rw [HDD.out]; rintro e w1 ⟨rfl, hb1⟩)
      go_ret
      exact ⟨by rw [HQ.out, HN.out]; simp [HD.out], (below_alR _ _).trans (hb1.mono (by simp))⟩
  · have he := Go.Proofs.Ytjegocecgncpkaa.txt_ne hn
    have HN := Lib.hid hn
    clear hn
    go_enter Try.func39, Try.ntmps39
    go_wp2_with fail
    go_ret
    exact ⟨by rw [HQ.out]; simp [HN.out], below_alR _ _⟩
set_option maxHeartbeats 2000000 in
theorem isf_m (x : Fld) (name : ByteArray) (st : Bool) (b1 b2 : Nat) (w : World) (h1 : w.cell? ⟨b1, 0, none⟩ = some (.string name)) (h2 : w.cell? ⟨b2, 0, none⟩ = some (.bool st)) (l1 : b1 < w.heap.size) (l2 : b2 < w.heap.size) :
    Calls Try.prog 34 (#[.agg #[.string x.1, .int .i64 x.2.1.1, .string x.2.1.2, .bool x.2.2]] ++ #[.pointer (some ⟨b1, 0, none⟩), .pointer (some ⟨b2, 0, none⟩)]) w fun e w' => e = .returned (.bool (fldQ name st x)) ∧ Below w.heap.size w w' := by
  obtain ⟨y0, ⟨y1, y2⟩, y3⟩ := x
  have n1 : b1 ≠ w.heap.size := by omega
  have n2 : b2 ≠ w.heap.size := by omega
  show Calls _ _ #[.agg #[.string y0, .int .i64 y1, .string y2, .bool y3], .pointer (some ⟨b1, 0, none⟩), .pointer (some ⟨b2, 0, none⟩)] _ _
  by_cases hn : y0 = name
  · have he := Go.Proofs.Ytjegocecgncpkaa.txt_eq hn
    have HN := Lib.hid hn
    clear hn
    go_enter Try.func34, Try.ntmps34
    go_wp2_with fail
    go_ret
    exact ⟨by unfold fldQ; rw [HN.out]; cases y3 <;> cases st <;> simp, below_alR _ _⟩
  · have he := Go.Proofs.Ytjegocecgncpkaa.txt_ne hn
    have HN := Lib.hid hn
    clear hn
    go_enter Try.func34, Try.ntmps34
    go_wp2_with fail
    go_ret
    exact ⟨by unfold fldQ; simp [HN.out], below_alR _ _⟩
set_option maxHeartbeats 2000000 in
theorem ism_m (m : Mth) (pp pc ph : Option Addr) (np cp nc cc nh ch : Nat) (name d : ByteArray) (b1 b2 : Nat) (ok : Nat → Prop) (w : World) (hm : RdX 2 (sP tyC) ok w (.slice pp np cp) m.params) (hz : SzM m) (h1 : w.cell? ⟨b1, 0, none⟩ = some (.string name)) (h2 : w.cell? ⟨b2, 0, none⟩ = some (.string d)) (l1 : b1 < w.heap.size) (l2 : b2 < w.heap.size) :
    Calls Try.prog 42 (#[.agg #[.string m.name, .slice pp np cp, .int .i64 m.ret.1, .string m.ret.2, .bool m.st, .bool m.ab, .int .i64 m.locals, .slice pc nc cc, .slice ph nh ch]] ++ #[.pointer (some ⟨b1, 0, none⟩), .pointer (some ⟨b2, 0, none⟩)]) w fun e w' => e = .returned (.bool (mthQ name d m)) ∧ Below w.heap.size w w' := by
  have n1 : b1 ≠ w.heap.size := by omega
  have n2 : b2 ≠ w.heap.size := by omega
  have HM := Lib.hid hm
  have HZ := Lib.hid hz
  clear hm hz
  show Calls _ _ #[.agg #[.string m.name, .slice pp np cp, .int .i64 m.ret.1, .string m.ret.2, .bool m.st, .bool m.ab, .int .i64 m.locals, .slice pc nc cc, .slice ph nh ch], .pointer (some ⟨b1, 0, none⟩), .pointer (some ⟨b2, 0, none⟩)] _ _
  go_enter Try.func42, Try.ntmps42
  go_wp2_with (go_at_call 39; refine (named_m m pp pc ph np cp nc cc nh ch name d ok _ (HM.out.any (sP.grow _) (below_alR _ _)) HZ.out).mono ?_; rintro e w1 ⟨rfl, hb1⟩)
  go_ret
  exact ⟨rfl, (below_alR _ _).trans (hb1.mono (by simp))⟩
set_option maxHeartbeats 2000000 in
theorem isv_m (m : Mth) (pp pc ph : Option Addr) (np cp nc cc nh ch : Nat) (name d : ByteArray) (b1 b2 : Nat) (ok : Nat → Prop) (w : World) (hm : RdX 2 (sP tyC) ok w (.slice pp np cp) m.params) (hz : SzM m) (h1 : w.cell? ⟨b1, 0, none⟩ = some (.string name)) (h2 : w.cell? ⟨b2, 0, none⟩ = some (.string d)) (l1 : b1 < w.heap.size) (l2 : b2 < w.heap.size) :
    Calls Try.prog 38 (#[.agg #[.string m.name, .slice pp np cp, .int .i64 m.ret.1, .string m.ret.2, .bool m.st, .bool m.ab, .int .i64 m.locals, .slice pc nc cc, .slice ph nh ch]] ++ #[.pointer (some ⟨b1, 0, none⟩), .pointer (some ⟨b2, 0, none⟩)]) w fun e w' => e = .returned (.bool (virQ name d m)) ∧ Below w.heap.size w w' := by
  have n1 : b1 ≠ w.heap.size := by omega
  have n2 : b2 ≠ w.heap.size := by omega
  have HM := Lib.hid hm
  have HZ := Lib.hid hz
  clear hm hz
  show Calls _ _ #[.agg #[.string m.name, .slice pp np cp, .int .i64 m.ret.1, .string m.ret.2, .bool m.st, .bool m.ab, .int .i64 m.locals, .slice pc nc cc, .slice ph nh ch], .pointer (some ⟨b1, 0, none⟩), .pointer (some ⟨b2, 0, none⟩)] _ _
  have hq : ∀ s a, m.st = s → m.ab = a → virQ name d m = (!s && (!a && mthQ name d m)) := by rintro _ _ rfl rfl; rfl
  obtain ⟨s, hs⟩ : ∃ x, m.st = x := ⟨_, rfl⟩
  obtain ⟨a, ha⟩ : ∃ x, m.ab = x := ⟨_, rfl⟩
  have HQ := Lib.hid (hq s a hs ha)
  have hnm : ∀ W, RdX 2 (sP tyC) ok W (.slice pp np cp) m.params → Calls Try.prog 39 #[.agg #[.string m.name, .slice pp np cp, .int .i64 m.ret.1, .string m.ret.2, .bool s, .bool a, .int .i64 m.locals, .slice pc nc cc, .slice ph nh ch], .string name, .string d] W fun e w' => e = .returned (.bool (mthQ name d m)) ∧ Below W.heap.size W w' := fun W hW => by
    have := named_m m pp pc ph np cp nc cc nh ch name d ok W hW HZ.out
    rwa [hs, ha] at this
  have HN := Lib.hid hnm
  rw [hs, ha]
  clear hq hs ha hnm
  cases s with
  | true =>
    go_enter Try.func38, Try.ntmps38
    go_wp2_with fail
    go_ret
    exact ⟨by rw [HQ.out]; rfl, below_alR _ _⟩
  | false =>
    cases a with
    | true =>
      go_enter Try.func38, Try.ntmps38
      go_wp2_with fail
      go_ret
      exact ⟨by rw [HQ.out]; rfl, below_alR _ _⟩
    | false =>
      go_enter Try.func38, Try.ntmps38
      go_wp2_with (go_at_call 39; refine (HN.out _ (HM.out.any (sP.grow _) (below_alR _ _))).mono ?_; rintro e w1 ⟨rfl, hb1⟩)
      go_ret
      exact ⟨by rw [HQ.out]; rfl, (below_alR _ _).trans (hb1.mono (by simp))⟩
set_option maxHeartbeats 2000000 in
theorem isi_m (m : Mth) (pp pc ph : Option Addr) (np cp nc cc nh ch : Nat) (ok : Nat → Prop) (w : World) (hm : RdX 2 (sP tyC) ok w (.slice pp np cp) m.params) (hz : SzM m) :
    Calls Try.prog 46 (#[.agg #[.string m.name, .slice pp np cp, .int .i64 m.ret.1, .string m.ret.2, .bool m.st, .bool m.ab, .int .i64 m.locals, .slice pc nc cc, .slice ph nh ch]] ++ #[]) w fun e w' => e = .returned (.bool (mthQ clinT voidT m)) ∧ Below w.heap.size w w' := by
  have HM := Lib.hid hm
  have HZ := Lib.hid hz
  clear hm hz
  show Calls _ _ #[.agg #[.string m.name, .slice pp np cp, .int .i64 m.ret.1, .string m.ret.2, .bool m.st, .bool m.ab, .int .i64 m.locals, .slice pc nc cc, .slice ph nh ch]] _ _
  go_enter Try.func46, Try.ntmps46
  go_wp2_with (go_at_call 39; refine (named_m m pp pc ph np cp nc cc nh ch clinT voidT ok _ (HM.out.any (sP.grow _) (below_alR _ _)) HZ.out).mono ?_; rintro e w1 ⟨rfl, hb1⟩)
  go_ret
  exact ⟨rfl, (below_alR _ _).trans (hb1.mono (by simp))⟩
set_option maxHeartbeats 2000000 in
theorem iss_m (x : Fld) (w : World) :
    Calls Try.prog 32 (#[.agg #[.string x.1, .int .i64 x.2.1.1, .string x.2.1.2, .bool x.2.2]] ++ #[]) w fun e w' => e = .returned (.bool x.2.2) ∧ Below w.heap.size w w' := by
  obtain ⟨y0, ⟨y1, y2⟩, y3⟩ := x
  show Calls _ _ #[.agg #[.string y0, .int .i64 y1, .string y2, .bool y3]] _ _
  go_enter Try.func32, Try.ntmps32
  go_wp2_with fail
  go_ret
  exact ⟨rfl, below_alR _ _⟩
theorem fields_m (n s : ByteArray) (k : Int) (vi vf vm : Value) (pf : Option Addr) (nf cf : Nat) (hf : vf = .slice pf nf cf) (pi pm : Option Addr) (ni ci nm cm : Nat) (hi : vi = .slice pi ni ci) (hm : vm = .slice pm nm cm) (w : World) :
    Calls Try.prog 37 #[.agg #[.string n, .string s, vi, .int .i64 k, vf, vm]] w fun e w' => e = .returned vf ∧ Below w.heap.size w w' := by
  subst hf hi hm
  go_enter Try.func37, Try.ntmps37
  go_wp2_with fail
  go_ret
  exact ⟨rfl, below_alR _ _⟩
theorem methods_m (n s : ByteArray) (k : Int) (vi vf vm : Value) (pf : Option Addr) (nf cf : Nat) (hf : vf = .slice pf nf cf) (pi pm : Option Addr) (ni ci nm cm : Nat) (hi : vi = .slice pi ni ci) (hm : vm = .slice pm nm cm) (w : World) :
    Calls Try.prog 41 #[.agg #[.string n, .string s, vi, .int .i64 k, vf, vm]] w fun e w' => e = .returned vm ∧ Below w.heap.size w w' := by
  subst hf hi hm
  go_enter Try.func41, Try.ntmps41
  go_wp2_with fail
  go_ret
  exact ⟨rfl, below_alR _ _⟩
end Go.Proofs.Ytjegocecgncpkaa.R
namespace Go.Proofs.Ytjegocecgncpkaa.R
open Go.RowKit Go.Proofs.Ytjegocecgncpkaa.D Go.Proofs.Ytjegocecgncpkaa.O Go.Proofs.Ytjegocecgncpkaa.A
theorem chain_m (ok : Nat → Prop) (tb mt : Nat) (vs : Value) (K : List Cls) (n : ByteArray) (w : World) (h : TrW w ok tb mt vs K) (hn : n.size ≤ maxLen) :
    Calls Try.prog 36 #[.pointer (some ⟨tb, 0, none⟩), .string n] w fun e w' => ∃ p c, e = .returned (.slice p (chainT (K.map skOf) n).1.length c) ∧ S.OwnC S.cS 9 w' w.heap.size (.slice p (chainT (K.map skOf) n).1.length c) (chainT (K.map skOf) n).1 ∧ Below w.heap.size w w' := by
  go_enter Try.func36, Try.ntmps36
  go_wp2_with fail
  refine (Chain_t ok tb mt vs K n w h hn).mono ?_
  rintro e w1 ⟨p, c, rfl, ho, hb⟩
  have HO := Lib.hid ho
  have HB := Lib.hid hb
  clear ho hb h
  go_wp2_with fail
  go_ret
  exact ⟨_, _, rfl, HO.out, HB.out⟩
theorem ifaces_m (ok : Nat → Prop) (tb mt : Nat) (vs : Value) (K : List Cls) (n : ByteArray) (w : World) (h : TrW w ok tb mt vs K) (hn : n.size ≤ maxLen) :
    Calls Try.prog 43 #[.pointer (some ⟨tb, 0, none⟩), .string n] w fun e w' => ∃ p c, e = .returned (.slice p (ifacesT (K.map skOf) n).length c) ∧ S.OwnC S.cS 9 w' w.heap.size (.slice p (ifacesT (K.map skOf) n).length c) (ifacesT (K.map skOf) n) ∧ Below w.heap.size w w' := by
  go_enter Try.func43, Try.ntmps43
  go_wp2_with fail
  refine (Ifaces_t ok tb mt vs K n w h hn).mono ?_
  rintro e w1 ⟨p, c, rfl, ho, hb⟩
  have HO := Lib.hid ho
  have HB := Lib.hid hb
  clear ho hb h
  go_wp2_with fail
  go_ret
  exact ⟨_, _, rfl, HO.out, HB.out⟩
def RevI (xs cur : List ByteArray) (i : Nat) : Prop := cur.length = xs.length ∧ ∀ k, cur[k]? = if k < xs.length ∧ (k < i ∨ xs.length ≤ k + i) then xs[xs.length - 1 - k]? else xs[k]?
theorem RevI.start (xs : List ByteArray) : RevI xs xs 0 := ⟨rfl, fun k => by rw [if_neg (by omega)]⟩
theorem RevI.done {xs cur : List ByteArray} {i : Nat} (h : RevI xs cur i) (hi : xs.length ≤ 2 * i + 1) : cur = xs.reverse := by
  apply List.ext_getElem?
  intro k
  rw [h.2 k]
  by_cases hk : k < xs.length
  · rw [List.getElem?_reverse hk]
    split
    · rfl
    · congr 1; omega
  · rw [if_neg (by omega), List.getElem?_eq_none (by omega), List.getElem?_eq_none (by simp; omega)]
theorem RevI.next {xs cur : List ByteArray} {i j : Nat} {x y : ByteArray} (h : RevI xs cur i) (hj : i + j + 1 = xs.length) (hij : i < j) (hx : cur[i]? = some x) (hy : cur[j]? = some y) : RevI xs ((cur.set i y).set j x) (i + 1) := by
  obtain ⟨hl, hc⟩ := h
  refine ⟨by simp [hl], fun k => ?_⟩
  have cx := hc i
  have cy := hc j
  rw [if_neg (by omega), hx] at cx
  rw [if_neg (by omega), hy] at cy
  by_cases e1 : k = j
  · subst e1
    rw [List.getElem?_set_self (by simp; omega), if_pos (by omega), show xs.length - 1 - k = i by omega, ← cx]
  · rw [List.getElem?_set_ne (by omega)]
    by_cases e2 : k = i
    · subst e2
      rw [List.getElem?_set_self (by omega), if_pos (by omega), show xs.length - 1 - k = j by omega, ← cy]
    · rw [List.getElem?_set_ne (by omega), hc k]
      by_cases e3 : k < xs.length ∧ (k < i ∨ xs.length ≤ k + i)
      · rw [if_pos e3, if_pos (by omega)]
      · rw [if_neg e3, if_neg (by omega)]
set_option maxHeartbeats 4000000 in
set_option maxRecDepth 100000 in
theorem rev_m (B : Nat) (p : Option Addr) (c : Nat) (xs : List ByteArray) (w : World) (h : S.OwnC S.cS 9 w B (.slice p xs.length c) xs) (hl : xs.length ≤ 1000000) (hB : B ≤ w.heap.size) :
    Calls Try.prog 61 #[.slice p xs.length c] w fun e w' => e = .returned (.tuple #[]) ∧ S.OwnC S.cS 9 w' B (.slice p xs.length c) xs.reverse ∧ Below B w w' := by
  rcases h.cells with ⟨e, rfl⟩ | ⟨g, cap, cur0, e, hBg, hlg, -, -⟩
  · simp only [Value.slice.injEq] at e
    obtain ⟨rfl, -, rfl⟩ := e
    have HO := Lib.hid h
    clear h
    go_enter Try.func61, Try.ntmps61
    go_wp2_with fail
    go_loopg [2, 3] 0 (fun _ s2 s3 wr => s2 = .int .i64 0 ∧ s3 = .int .i64 (-1) ∧ wr = w)
    case atStart => exact ⟨rfl, rfl, rfl⟩
    case round =>
      obtain ⟨rfl, rfl, rfl⟩ := hrel
      go_wp2_with fail
      go_end0
      exact ⟨rfl, HO.out, Below.refl _ _⟩
  · simp only [Value.slice.injEq] at e
    obtain ⟨rfl, -, rfl⟩ := e
    have HO := Lib.hid h
    clear h
    go_enter Try.func61, Try.ntmps61
    go_wp2_with fail
    go_loopg [2, 3] xs.length (fun gg s2 s3 wr => ∃ (i : Nat) (cur : List ByteArray), s2 = .int .i64 (i : Int) ∧ s3 = .int .i64 ((xs.length : Int) - 1 - (i : Int)) ∧ i ≤ xs.length ∧ xs.length - i ≤ gg ∧ Hid (RevI xs cur i) ∧ Hid (S.OwnC S.cS 9 wr B (.slice (some ⟨g, 0, none⟩) xs.length c) cur) ∧ Hid (Below B w wr))
    case atStart => exact ⟨0, xs, rfl, by go_num, by omega, by omega, Lib.hid (RevI.start xs), HO, Lib.hid (Below.refl _ _)⟩
    case round =>
      obtain ⟨i, cur, rfl, rfl, hi, hg, HI, HC, HB⟩ := hrel
      by_cases hlt : (i : Int) < (xs.length : Int) - 1 - (i : Int)
      · obtain ⟨j, hj⟩ : ∃ j : Nat, i + j + 1 = xs.length := ⟨xs.length - 1 - i, by omega⟩
        have hjz : (xs.length : Int) - 1 - (i : Int) = (j : Int) := by omega
        rw [hjz] at hlt ⊢
        have hcl := HI.out.1
        obtain ⟨x, hx⟩ : ∃ x, cur[i]? = some x := ⟨_, List.getElem?_eq_getElem (by omega)⟩
        obtain ⟨y, hy⟩ : ∃ y, cur[j]? = some y := ⟨_, List.getElem?_eq_getElem (by omega)⟩
        have HI2 := Lib.hid (HI.out.next hj (by omega) hx hy)
        rcases HC.out.cells with ⟨e, -⟩ | ⟨g', cap', cu, e, -, hlg2, -, -, -, hcc, hfz⟩
        · simp at e
        · simp only [Value.slice.injEq, Option.some.injEq, Addr.mk.injEq, and_true] at e
          obtain ⟨rfl, -, rfl⟩ := e
          have ci := hcc i x hx
          have cj := hcc j y hy
          have fi := hfz.1 i
          have fj := hfz.1 j
          have i0 : (0 : Int) ≤ (i : Int) := by omega
          have j0 : (0 : Int) ≤ (j : Int) := by omega
          have i1 : (i : Int) < (xs.length : Int) := by omega
          have j1 : (j : Int) < (xs.length : Int) := by omega
          have inj : i ≠ j := by omega
          try dsimp only [S.cS] at *
          clear hcc hfz hx hy hcl hjz
          go_wp2_with fail
          go_big_region
          have k1 : S.Kpt [g] wr (wr.setCell ⟨g, i, none⟩ (.string y)) := .set _ _ _ _ _ (by simp)
          have k2 : S.Kpt [g] (wr.setCell ⟨g, i, none⟩ (.string y)) ((wr.setCell ⟨g, i, none⟩ (.string y)).setCell ⟨g, j, none⟩ (.string x)) := .set _ _ _ _ _ (by simp)
          have k3 := (k1.trans k2 (fun _ h => .inl h)).drew
          have ho : S.OwnC S.cS 9 ((wr.setCell ⟨g, i, none⟩ (.string y)).setCell ⟨g, j, none⟩ (.string x)) B (.slice (some ⟨g, 0, none⟩) xs.length c) ((cur.set i y).set j x) := (HC.out.set i y).set j x
          have HO2 := Lib.hid (ho.kpt ((S.Kpt.refl [] _).drew) (fun g _ => by simp))
          have HB2 := Lib.hid (HB.out.trans (k3.below (B := B) (fun z hz => by rw [List.mem_singleton.1 hz]; exact hBg) (Nat.le_trans hB HB.out.size)))
          clear k1 k2 k3 ho
          obtain ⟨w2, hw2⟩ : ∃ z, ((wr.setCell ⟨g, i, none⟩ (.string y)).setCell ⟨g, j, none⟩ (.string x)).drew = z := ⟨_, rfl⟩
          rw [hw2] at HO2 HB2 ⊢
          clear hw2 ci cj fi fj
          go_wp2_with fail
          go_roundg (xs.length - (i + 1))
          case measure => omega
          case rel => exact ⟨i + 1, _, by go_num, by (try go_num) <;> omega, by omega, by omega, HI2, HO2, HB2⟩
      · have HE := Lib.hid (HI.out.done (by omega))
        go_wp2_with fail
        go_end0
        refine ⟨rfl, ?_, HB.out⟩
        rw [← HE.out]
        exact HC.out
theorem down_m (ok : Nat → Prop) (tb mt : Nat) (vs : Value) (K : List Cls) (n : ByteArray) (w : World) (h : TrW w ok tb mt vs K) (hn : n.size ≤ maxLen) :
    Calls Try.prog 29 #[.pointer (some ⟨tb, 0, none⟩), .string n] w fun e w' => ∃ p c, e = .returned (.slice p (downK K n).length c) ∧ S.OwnC S.cS 9 w' w.heap.size (.slice p (downK K n).length c) (downK K n) ∧ Below w.heap.size w w' := by
  have hcl := (chain_kn (K.map skOf) n).len
  have hfew := h.2.2.2.2.2.1
  go_enter Try.func29, Try.ntmps29
  go_wp2_with fail
  refine (chain_m ok tb mt vs K n w h hn).mono ?_
  rintro e w1 ⟨p, c, rfl, ho, hb⟩
  have HO := Lib.hid ho
  have HB := Lib.hid hb
  clear ho hb h
  have HD : Hid (downK K n = (chainT (K.map skOf) n).1.reverse) := Lib.hid rfl
  obtain ⟨l, hl⟩ : ∃ l, (chainT (K.map skOf) n).1 = l := ⟨_, rfl⟩
  rw [hl] at HO HD hcl ⊢
  clear hl
  go_wp2_with fail
  refine (rev_m w.heap.size p c l w1 HO.out (by omega) HB.out.size).mono ?_
  rintro e w2 ⟨rfl, ho2, hb2⟩
  have HO2 := Lib.hid ho2
  have HB2 := Lib.hid (HB.out.trans hb2)
  clear ho2 hb2 HO HB
  go_wp2_with fail
  go_ret
  rw [HD.out, List.length_reverse]
  exact ⟨_, _, rfl, HO2.out, HB2.out⟩
end Go.Proofs.Ytjegocecgncpkaa.R
