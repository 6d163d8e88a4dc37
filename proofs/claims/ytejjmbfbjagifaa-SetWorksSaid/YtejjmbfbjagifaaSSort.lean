/- What List tells: all that are in, rising. -/
import Derived.Test.YtejjmbfbjagifaaSSet
import Derived.Test.YtejjmbfbjagifaaShelf
import Derived.Shelf.SlSortCmp.Whole1
namespace Go.Proofs.Ytejjmbfbjagifaa.S
open Go.RowKit Go.Maps

theorem swo_of {α : Type} {lt : α → α → Bool} (T : TO lt) : Sort.SWO (ltOf (cmp3 lt)) := by
  have e : ltOf (cmp3 lt) = lt := by
    funext x y
    exact cmp3_lt lt x y
  rw [e]
  exact ⟨T.irr, fun _ _ _ => T.tr, fun _ _ _ h1 h2 => T.nt h2 h1⟩

/-- the world that the sort leaves -/
theorem sort_out {α : Type} [Inhabited α] {c : α → Value} {T : TypeId} {w : World} {B g cap n : Nat} {xs : List α} {d' : Array α} {os : Array Obj} (h : OwnC c T w B (.slice (some ⟨g, 0, none⟩) xs.length cap) xs) (hd : d'.size = xs.length) :
    OwnC c T (sortWorld c w g 0 n d' os) B (.slice (some ⟨g, 0, none⟩) xs.length cap) d'.toList ∧ Kpt [g] w (sortWorld c w g 0 n d' os) := by
  rcases h.2 with ⟨e, _⟩ | ⟨g', cap', cur, e, hb, hg, h1, h2, h3, h4⟩
  · cases e
  simp only [Value.slice.injEq, Option.some.injEq, Addr.mk.injEq, and_true, true_and] at e
  obtain ⟨rfl, rfl⟩ := e
  have hlt := (Array.getElem?_eq_some_iff.1 hg).1
  have hsz : (Sort.putRow c (Sort.ahead w n) g 0 d').heap.size = w.heap.size := Sort.size_putRow _ _ _ _ _
  have hd2 : d'.toList.length = xs.length := by simpa using hd
  unfold OwnC
  rw [hd2]
  refine ⟨⟨by simp [hd], .inr ⟨g, cap, Sort.putCells c 0 d' cur, rfl, hb, ?_, h1, h2, by simp [Sort.putCells, h3], ?_⟩⟩, ⟨⟨rfl, rfl, rfl, ?_, fun k hk => absurd hk (Nat.not_lt_zero k)⟩, fun b hb' hn => ?_⟩⟩
  · unfold sortWorld
    rw [Sort.heap_grow_old _ _ (by rw [hsz]; exact hlt)]
    show (w.heap.modify g (Sort.onCells (Sort.putCells c 0 d')))[g]? = _
    rw [Array.getElem?_modify, if_pos rfl, hg]
    rfl
  · apply List.ext_getElem?
    intro i
    rw [Nat.mul_one] at h4 ⊢
    by_cases hi : i < xs.length
    · rw [List.getElem?_take_of_lt hi]
      have hic : i < cur.size := by rw [h3]; omega
      simp only [Sort.putCells, Array.getElem?_toList, Array.getElem?_mapIdx, List.getElem?_map]
      rw [Array.getElem?_eq_getElem hic, Array.getElem?_eq_getElem (by omega : i < d'.size)]
      simp [hd, hi]
    · rw [List.getElem?_eq_none (by simp; omega), List.getElem?_eq_none (by simp [hd]; omega)]
  · unfold sortWorld
    rw [Sort.size_grow, hsz]
    omega
  · unfold sortWorld
    rw [Sort.heap_grow_old _ _ (by rw [hsz]; exact hb')]
    show (w.heap.modify g (Sort.onCells (Sort.putCells c 0 d')))[b]? = _
    rw [Array.getElem?_modify, if_neg (fun e => hn (by rw [e]; simp))]
theorem holds_own {α : Type} [Inhabited α] {c : α → Value} {T : TypeId} {w : World} {B g cap : Nat} {xs : List α} (h : OwnC c T w B (.slice (some ⟨g, 0, none⟩) xs.length cap) xs) : Sort.Holds c w g 0 xs.toArray ∧ g < w.heap.size := by
  rcases h.cells with ⟨e, _⟩ | ⟨g', cap', cur, e, hb, hlt, _, _, _, h3, h4, _⟩
  · cases e
  simp only [Value.slice.injEq, Option.some.injEq, Addr.mk.injEq, and_true, true_and] at e
  obtain ⟨rfl, rfl⟩ := e
  refine ⟨fun j hj => ?_, hlt⟩
  have hj' : j < xs.length := by simpa using hj
  rw [Nat.zero_add]
  refine ⟨?_, h4 j⟩
  rw [h3 j _ (List.getElem?_eq_getElem hj')]
  simp [getElem!_pos xs.toArray j hj]
/-- rising, each once -/
theorem srt_of {α : Type} [Inhabited α] {lt : α → α → Bool} (T : TO lt) {xs : List α} {d' : Array α} (hp : Sort.PermIn 0 xs.toArray.size xs.toArray d') (hs : Sort.SortedIn (ltOf (cmp3 lt)) 0 xs.toArray.size d') (hn : xs.Nodup) : d'.size = xs.length ∧ Srt lt d'.toList ∧ ∀ x, x ∈ d'.toList ↔ x ∈ xs := by
  obtain ⟨hz, _, hperm⟩ := hp
  have hz' : d'.size = xs.length := by simpa using hz
  rw [← hz] at hperm
  have e1 : d'.extract 0 d'.size = d' := Array.extract_size
  have e2 : xs.toArray.extract 0 d'.size = xs.toArray := by rw [hz]; exact Array.extract_size
  rw [e1, e2] at hperm
  have hnd : d'.toList.Nodup := hperm.nodup_iff.2 hn
  refine ⟨hz', ?_, fun x => hperm.mem_iff⟩
  rw [Srt, List.pairwise_iff_getElem]
  intro i j hi hj hij
  have hi' : i < d'.size := by simpa using hi
  have hj' : j < d'.size := by simpa using hj
  have h1 := hs i j (Nat.zero_le _) hij (by rw [← hz]; exact hj')
  rw [getElem!_pos d' j hj', getElem!_pos d' i hi'] at h1
  have h2 : lt d'[j] d'[i] = false := by rw [← h1]; exact (cmp3_lt lt _ _).symm
  show lt d'[i] d'[j] = true
  cases h3 : lt d'[i] d'[j] with
  | true => rfl
  | false =>
    have e := T.tot h3 h2
    have := (List.pairwise_iff_getElem.1 hnd) i j hi hj hij
    exact absurd e this

theorem sort_I (B g cap : Nat) (xs : List Int) (w : World) (h : OwnC cI 3 w B (.slice (some ⟨g, 0, none⟩) xs.length cap) xs) (hn : xs.Nodup) (hl : xs.length ≤ 1000000) :
    Calls Try.prog 31 #[.slice (some ⟨g, 0, none⟩) xs.length cap, .func (.func 32) #[] #[]] w fun e w' => e = .returned (.tuple #[]) ∧ ∃ R, OwnC cI 3 w' B (.slice (some ⟨g, 0, none⟩) xs.length cap) R ∧ R.length = xs.length ∧ Srt ltI R ∧ (∀ x, x ∈ R ↔ x ∈ xs) ∧ Kpt [g] w w' := by
  have eg : ∀ args w, (callFunc 32 args).run Try.prog w = .ok (.enter 32 args) w := enters_of Try.func32 (by kernel_rfl) rfl
  obtain ⟨hH, hblk⟩ := holds_own h
  have hcmp : CmpLays1 Try.prog 32 #[] cI (cmp3 ltI) g 0 xs.toArray.size w := fun m os dk _ x y => by
    refine (comp_I x y _).mono ?_
    rintro e w' ⟨rfl, rfl⟩
    exact ⟨rfl, 0, #[], by rw [Sort.grow_empty]; rfl⟩
  have hc := Try.slices_SortFunc_f31 cI (fun _ => rfl) (cmp3 ltI) (swo_of toI) 32 #[] g 0 cap xs.toArray w eg hcmp hH hblk (by simp; omega)
  rw [show xs.toArray.size = xs.length by simp] at hc
  refine hc.mono ?_
  rintro e w' ⟨rfl, d', n, os, hp, hs, rfl⟩
  obtain ⟨s1, s2, s3⟩ := srt_of toI (xs := xs) (by rw [show xs.toArray.size = xs.length by simp]; exact hp) (by rw [show xs.toArray.size = xs.length by simp]; exact hs) hn
  obtain ⟨s4, s5⟩ := sort_out (n := n) (os := os) h s1
  exact ⟨rfl, _, s4, by simpa using s1, s2, s3, s5⟩

set_option maxHeartbeats 2000000 in
set_option maxRecDepth 100000 in
theorem list_I (B sb mb : Nat) (L : List Int) (w : World) (h : StI w B sb mb L) (hl : L.length ≤ 10000) :
    Calls Try.prog 15 #[.pointer (some ⟨sb, 0, none⟩)] w fun e w' => ∃ v R, e = .returned v ∧ OwnC cI 3 w' w.heap.size v R ∧ Srt ltI R ∧ (∀ x, x ∈ R ↔ x ∈ L) ∧ Below w.heap.size w w' := by
  have hsb := h.lt.1
  have hmb := h.lt.2.1
  go_enter Try.func15, Try.ntmps15
  go_wp2_with fail
  refine (len_I B sb mb L w h (by omega)).mono ?_
  rintro e w1 ⟨rfl, hb1⟩
  have hs1 : StI w1 B sb mb L := h.bel hb1
  have HB1 := Lib.hid hb1
  have HS1 := Lib.hid hs1
  have hmk := run_mk infI L.length (by omega)
  clear hb1 hs1 h
  go_upto_region 2 with fail
  have ho2 : Hid (OwnC cI 3 (w1.alloc (.cells (madeCells #[(.int .i64 0 : Value)] L.length) 3)) w.heap.size (.slice (some ⟨w1.heap.size, 0, none⟩) 0 L.length) []) := Lib.hid (World.ownsRow_made w1 _ _ HB1.out.size (by unfold maxLen; omega) (by simp [size_madeCells]))
  obtain ⟨w2, hw2⟩ : ∃ z, z = w1.alloc (.cells (madeCells #[(.int .i64 0 : Value)] L.length) 3) := ⟨_, rfl⟩
  rw [← hw2] at ho2 ⊢
  have hb2 : Hid (Below w.heap.size w w2) := Lib.hid (by rw [hw2]; exact HB1.out.alloc HB1.out.size _)
  have hs2 : Hid (StI w2 B sb mb L) := Lib.hid (by rw [hw2]; exact HS1.out.bel ((Below.refl _ w1).alloc (Nat.le_refl _) _))
  have hz2 : w1.heap.size < w2.heap.size := by rw [hw2]; simp
  clear hw2 hmk HS1 HB1
  obtain ⟨c0, c1, f1⟩ := hs2.out.cells
  have hlt2 := hs2.out.lt.1
  have hm2 := hs2.out.2.2.2
  go_wp2_with first | (at_builtin; refine wp_app0 infI rfl _ _ rfl w.heap.size _ [] rfl ho2.out rfl ?_) | (at_range; refine wp_rangeQ elI Try.underlying60 rfl _ rfl mb L rfl hm2 ?_)
  intro w3 n0 hrg hgr hsz
  try go_frame
  have HRG := Lib.hid hrg
  have HB3 : Hid (Below w.heap.size w w3) := Lib.hid (hb2.out.grown hgr hb2.out.size (fun k e => by cases e))
  have HO3 : Hid (OwnC cI 3 w3 w.heap.size (.slice (some ⟨w1.heap.size, 0, none⟩) 0 L.length) []) := Lib.hid (ho2.out.kpt (.of_grown (S := []) hgr (fun g e => by cases e)) (by simp))
  obtain ⟨r, hr⟩ : ∃ r, r = w2.heap.size := ⟨_, rfl⟩
  rw [← hr] at HRG ⊢
  have hgr1 : w1.heap.size ≠ r := by omega
  have hWr : w.heap.size ≤ r := by have := hb2.out.size; omega
  clear hrg hgr hsz c0 c1 f1 hlt2 hm2 hr hz2 ho2 hb2 hs2
  go_wp2_with fail
  go_loopw [3] (fun v wr => ∃ (R : List Int) (n g cap : Nat), v = .slice (some ⟨g, 0, none⟩) R.length cap ∧ g ≠ r ∧ Hid (Rg 3 qI okI wr mb r L R n) ∧ Hid (OwnC cI 3 wr w.heap.size (.slice (some ⟨g, 0, none⟩) R.length cap) R) ∧ Hid (Below w.heap.size w wr)) (fun _ wr => wr.rangeLeft mb r)
  case atStart => exact ⟨[], n0, _, _, rfl, hgr1, HRG, HO3, HB3⟩
  case round =>
    clear HRG HO3 HB3 hgr1
    obtain ⟨R, n, g, cap, rfl, hgr, HRG, HO, HB⟩ := hrel
    have HN := Lib.hid HRG.out.left
    go_wp2_with (at_next; refine wp_nextQ elI rfl _ rfl mb r n L R rfl HRG.out ?_ ?_)
    · intro hR
      have HR := Lib.hid hR
      clear hR
      go_wp2_with fail
      have hLn := HRG.out.owns.nodup
      have hRl : R.length = L.length := nodup_len_eq HRG.out.nodup hLn HR.out
      refine (sort_I w.heap.size g cap R wr HO.out HRG.out.nodup (by omega)).mono ?_
      rintro e w5 ⟨rfl, R', s1, s2, s3, s4, s5⟩
      have hgW := (HO.out.lt g rfl).1
      have S1 := Lib.hid s1
      have S5 : Hid (Below w.heap.size w w5) := Lib.hid (HB.out.trans (s5.below (fun y hy => by rw [List.mem_singleton.1 hy]; exact hgW) HB.out.size))
      have S4 : Hid (∀ x, x ∈ R' ↔ x ∈ L) := Lib.hid (fun x => (s4 x).trans (HR.out x))
      have S3 := Lib.hid s3
      clear s1 s2 s3 s4 s5 HR HRG HO HB hLn hRl HN
      go_wp2
      go_ret
      exact ⟨_, R', rfl, S1.out, S3.out, S4.out, S5.out⟩
    · intro x w4 n4 hox hxL hxR hrg4 hlt4 hg4 hsz4 hen
      have hRl : R.length ≤ L.length := by
        have h5 := hrg4.owns.nodup
        have : ∀ y ∈ R, y ∈ L := fun y hy => by
          obtain ⟨D, left, _, _, _, h, _⟩ := HRG.out
          exact h y hy
        exact HRG.out.nodup.length_le_of_subset this
      have hgW := (HO.out.lt g rfl).1
      have k4 : Kpt [r] wr w4 := .of_grown hg4 (fun z e => by cases e; exact .inl (by simp))
      have HO4 := Lib.hid ((HO.out.kpt k4 (fun z e => by cases e; simpa using hgr)).alloc (.cells #[.int .i64 x] 3))
      have HB4 : Hid (Below w.heap.size w w4) := Lib.hid (HB.out.trans (k4.below (fun y hy => by rw [List.mem_singleton.1 hy]; exact hWr) HB.out.size))
      have HX := Lib.hid (rd_one (c := cI) (x := x) (heap_alloc_new w4 (.cells #[.int .i64 x] 3)) rfl)
      have HRG4 := Lib.hid hrg4
      have hrl := hrg4.lt
      clear hrg4 hg4 hsz4 k4 HRG HO HB hox hxL hxR
      dsimp only [cI] at hen ⊢
      go_wp2_with (at_builtin; refine wp_appC infI (fun _ => rfl) rfl _ _ rfl w.heap.size _ R rfl HO4.out (fun _ => True) _ [x] rfl HX.out (by simp; omega) (by have := HB4.out.size; simp; omega) ?_)
      intro v' w6 ho6 hg6 hl6
      rcases ho6.cells with ⟨_, e'⟩ | ⟨g', cap', cur', rfl, hb', _⟩
      · simp at e'
      have hg'r : g' ≠ r := by
        rcases hl6 with e | e
        · simp only [Value.ownBlock, Option.some.injEq] at e; omega
        · simp only [Value.ownBlock, Option.some.injEq] at e; omega
      have k6 : Kpt [g] w4 w6 := (Kpt.alloc [g] w4 _).trans (.of_grown (S := [g]) hg6 (fun z e => by cases e; exact .inl (by simp))) (fun y hy => .inl hy)
      have HO6 := Lib.hid ho6
      have HRG6 := Lib.hid (HRG4.out.kpt k6 (by simp; omega) (by simp; omega))
      have HB6 : Hid (Below w.heap.size w w6) := Lib.hid (HB4.out.trans (k6.below (fun y hy => by rw [List.mem_singleton.1 hy]; exact hgW) HB4.out.size))
      clear ho6 hg6 hl6 k6 HO4 HX HRG4 hen
      go_wp2_with fail
      go_roundw
      case rel => exact ⟨R ++ [x], n4, g', cap', rfl, hg'r, HRG6, HO6, HB6⟩
      case measure => rw [HN.out, HRG6.out.left]; exact hlt4
theorem sort_S (B g cap : Nat) (xs : List ByteArray) (w : World) (h : OwnC cS 9 w B (.slice (some ⟨g, 0, none⟩) xs.length cap) xs) (hn : xs.Nodup) (hl : xs.length ≤ 1000000) :
    Calls Try.prog 34 #[.slice (some ⟨g, 0, none⟩) xs.length cap, .func (.func 35) #[] #[]] w fun e w' => e = .returned (.tuple #[]) ∧ ∃ R, OwnC cS 9 w' B (.slice (some ⟨g, 0, none⟩) xs.length cap) R ∧ R.length = xs.length ∧ Srt ltS R ∧ (∀ x, x ∈ R ↔ x ∈ xs) ∧ Kpt [g] w w' := by
  have eg : ∀ args w, (callFunc 35 args).run Try.prog w = .ok (.enter 35 args) w := enters_of Try.func35 (by kernel_rfl) rfl
  obtain ⟨hH, hblk⟩ := holds_own h
  have hcmp : CmpLays1 Try.prog 35 #[] cS (cmp3 ltS) g 0 xs.toArray.size w := fun m os dk _ x y => by
    refine (comp_S x y _).mono ?_
    rintro e w' ⟨rfl, rfl⟩
    exact ⟨rfl, 0, #[], by rw [Sort.grow_empty]; rfl⟩
  have hc := Try.slices_SortFunc_f34 cS (fun _ => rfl) (cmp3 ltS) (swo_of toS) 35 #[] g 0 cap xs.toArray w eg hcmp hH hblk (by simp; omega)
  rw [show xs.toArray.size = xs.length by simp] at hc
  refine hc.mono ?_
  rintro e w' ⟨rfl, d', n, os, hp, hs, rfl⟩
  obtain ⟨s1, s2, s3⟩ := srt_of toS (xs := xs) (by rw [show xs.toArray.size = xs.length by simp]; exact hp) (by rw [show xs.toArray.size = xs.length by simp]; exact hs) hn
  obtain ⟨s4, s5⟩ := sort_out (n := n) (os := os) h s1
  exact ⟨rfl, _, s4, by simpa using s1, s2, s3, s5⟩

set_option maxHeartbeats 2000000 in
set_option maxRecDepth 100000 in
theorem list_S (B sb mb : Nat) (L : List ByteArray) (w : World) (h : StS w B sb mb L) (hl : L.length ≤ 10000) :
    Calls Try.prog 18 #[.pointer (some ⟨sb, 0, none⟩)] w fun e w' => ∃ v R, e = .returned v ∧ OwnC cS 9 w' w.heap.size v R ∧ Srt ltS R ∧ (∀ x, x ∈ R ↔ x ∈ L) ∧ Below w.heap.size w w' := by
  have hsb := h.lt.1
  have hmb := h.lt.2.1
  go_enter Try.func18, Try.ntmps18
  go_wp2_with fail
  refine (len_S B sb mb L w h (by omega)).mono ?_
  rintro e w1 ⟨rfl, hb1⟩
  have hs1 : StS w1 B sb mb L := h.bel hb1
  have HB1 := Lib.hid hb1
  have HS1 := Lib.hid hs1
  have hmk := run_mk infS L.length (by omega)
  clear hb1 hs1 h
  go_upto_region 2 with fail
  have ho2 : Hid (OwnC cS 9 (w1.alloc (.cells (madeCells #[(.string ⟨#[]⟩ : Value)] L.length) 9)) w.heap.size (.slice (some ⟨w1.heap.size, 0, none⟩) 0 L.length) []) := Lib.hid (World.ownsRow_made w1 _ _ HB1.out.size (by unfold maxLen; omega) (by simp [size_madeCells]))
  obtain ⟨w2, hw2⟩ : ∃ z, z = w1.alloc (.cells (madeCells #[(.string ⟨#[]⟩ : Value)] L.length) 9) := ⟨_, rfl⟩
  rw [← hw2] at ho2 ⊢
  have hb2 : Hid (Below w.heap.size w w2) := Lib.hid (by rw [hw2]; exact HB1.out.alloc HB1.out.size _)
  have hs2 : Hid (StS w2 B sb mb L) := Lib.hid (by rw [hw2]; exact HS1.out.bel ((Below.refl _ w1).alloc (Nat.le_refl _) _))
  have hz2 : w1.heap.size < w2.heap.size := by rw [hw2]; simp
  clear hw2 hmk HS1 HB1
  obtain ⟨c0, c1, f1⟩ := hs2.out.cells
  have hlt2 := hs2.out.lt.1
  have hm2 := hs2.out.2.2.2
  go_wp2_with first | (at_builtin; refine wp_app0 infS rfl _ _ rfl w.heap.size _ [] rfl ho2.out rfl ?_) | (at_range; refine wp_rangeQ elS Try.underlying57 rfl _ rfl mb L rfl hm2 ?_)
  intro w3 n0 hrg hgr hsz
  try go_frame
  have HRG := Lib.hid hrg
  have HB3 : Hid (Below w.heap.size w w3) := Lib.hid (hb2.out.grown hgr hb2.out.size (fun k e => by cases e))
  have HO3 : Hid (OwnC cS 9 w3 w.heap.size (.slice (some ⟨w1.heap.size, 0, none⟩) 0 L.length) []) := Lib.hid (ho2.out.kpt (.of_grown (S := []) hgr (fun g e => by cases e)) (by simp))
  obtain ⟨r, hr⟩ : ∃ r, r = w2.heap.size := ⟨_, rfl⟩
  rw [← hr] at HRG ⊢
  have hgr1 : w1.heap.size ≠ r := by omega
  have hWr : w.heap.size ≤ r := by have := hb2.out.size; omega
  clear hrg hgr hsz c0 c1 f1 hlt2 hm2 hr hz2 ho2 hb2 hs2
  go_wp2_with fail
  go_loopw [3] (fun v wr => ∃ (R : List ByteArray) (n g cap : Nat), v = .slice (some ⟨g, 0, none⟩) R.length cap ∧ g ≠ r ∧ Hid (Rg 9 qS okS wr mb r L R n) ∧ Hid (OwnC cS 9 wr w.heap.size (.slice (some ⟨g, 0, none⟩) R.length cap) R) ∧ Hid (Below w.heap.size w wr)) (fun _ wr => wr.rangeLeft mb r)
  case atStart => exact ⟨[], n0, _, _, rfl, hgr1, HRG, HO3, HB3⟩
  case round =>
    clear HRG HO3 HB3 hgr1
    obtain ⟨R, n, g, cap, rfl, hgr, HRG, HO, HB⟩ := hrel
    have HN := Lib.hid HRG.out.left
    go_wp2_with (at_next; refine wp_nextQ elS rfl _ rfl mb r n L R rfl HRG.out ?_ ?_)
    · intro hR
      have HR := Lib.hid hR
      clear hR
      go_wp2_with fail
      have hLn := HRG.out.owns.nodup
      have hRl : R.length = L.length := nodup_len_eq HRG.out.nodup hLn HR.out
      refine (sort_S w.heap.size g cap R wr HO.out HRG.out.nodup (by omega)).mono ?_
      rintro e w5 ⟨rfl, R', s1, s2, s3, s4, s5⟩
      have hgW := (HO.out.lt g rfl).1
      have S1 := Lib.hid s1
      have S5 : Hid (Below w.heap.size w w5) := Lib.hid (HB.out.trans (s5.below (fun y hy => by rw [List.mem_singleton.1 hy]; exact hgW) HB.out.size))
      have S4 : Hid (∀ x, x ∈ R' ↔ x ∈ L) := Lib.hid (fun x => (s4 x).trans (HR.out x))
      have S3 := Lib.hid s3
      clear s1 s2 s3 s4 s5 HR HRG HO HB hLn hRl HN
      go_wp2
      go_ret
      exact ⟨_, R', rfl, S1.out, S3.out, S4.out, S5.out⟩
    · intro x w4 n4 hox hxL hxR hrg4 hlt4 hg4 hsz4 hen
      have hRl : R.length ≤ L.length := by
        have h5 := hrg4.owns.nodup
        have : ∀ y ∈ R, y ∈ L := fun y hy => by
          obtain ⟨D, left, _, _, _, h, _⟩ := HRG.out
          exact h y hy
        exact HRG.out.nodup.length_le_of_subset this
      have hgW := (HO.out.lt g rfl).1
      have k4 : Kpt [r] wr w4 := .of_grown hg4 (fun z e => by cases e; exact .inl (by simp))
      have HO4 := Lib.hid ((HO.out.kpt k4 (fun z e => by cases e; simpa using hgr)).alloc (.cells #[.string x] 9))
      have HB4 : Hid (Below w.heap.size w w4) := Lib.hid (HB.out.trans (k4.below (fun y hy => by rw [List.mem_singleton.1 hy]; exact hWr) HB.out.size))
      have HX := Lib.hid (rd_one (c := cS) (x := x) (heap_alloc_new w4 (.cells #[.string x] 9)) rfl)
      have HRG4 := Lib.hid hrg4
      have hrl := hrg4.lt
      clear hrg4 hg4 hsz4 k4 HRG HO HB hox hxL hxR
      dsimp only [cS] at hen ⊢
      go_wp2_with (at_builtin; refine wp_appC infS (fun _ => rfl) rfl _ _ rfl w.heap.size _ R rfl HO4.out (fun _ => True) _ [x] rfl HX.out (by simp; omega) (by have := HB4.out.size; simp; omega) ?_)
      intro v' w6 ho6 hg6 hl6
      rcases ho6.cells with ⟨_, e'⟩ | ⟨g', cap', cur', rfl, hb', _⟩
      · simp at e'
      have hg'r : g' ≠ r := by
        rcases hl6 with e | e
        · simp only [Value.ownBlock, Option.some.injEq] at e; omega
        · simp only [Value.ownBlock, Option.some.injEq] at e; omega
      have k6 : Kpt [g] w4 w6 := (Kpt.alloc [g] w4 _).trans (.of_grown (S := [g]) hg6 (fun z e => by cases e; exact .inl (by simp))) (fun y hy => .inl hy)
      have HO6 := Lib.hid ho6
      have HRG6 := Lib.hid (HRG4.out.kpt k6 (by simp; omega) (by simp; omega))
      have HB6 : Hid (Below w.heap.size w w6) := Lib.hid (HB4.out.trans (k6.below (fun y hy => by rw [List.mem_singleton.1 hy]; exact hgW) HB4.out.size))
      clear ho6 hg6 hl6 k6 HO4 HX HRG4 hen
      go_wp2_with fail
      go_roundw
      case rel => exact ⟨R ++ [x], n4, g', cap', rfl, hg'r, HRG6, HO6, HB6⟩
      case measure => rw [HN.out, HRG6.out.left]; exact hlt4
end Go.Proofs.Ytejjmbfbjagifaa.S
