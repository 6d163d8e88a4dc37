/- Texts that the proof is made of, joined. No condition. -/
import Derived.Test.YtlmpnmnfloeoiaaGreatC1023
import Derived.Deep.DeepCutAuto
import Derived.Deep.CutBlock
import Derived.Test.YtlmpnmnfloeoiaaGreatC10H
set_option linter.unusedVariables false
set_option linter.unusedSimpArgs false
set_option maxRecDepth 100000
set_option maxHeartbeats 16000000
namespace Go.Proofs.YtlmpnmnfloeoiaaGreat.R
open Go.RowKit Go.Proofs.YtlmpnmnfloeoiaaGreat.D Go.Proofs.YtlmpnmnfloeoiaaGreat.O Go.Proofs.YtlmpnmnfloeoiaaGreat.A
def subS (j : Nat) : ByteArray := [⟨#[80]⟩, ⟨#[79, 98, 106, 101, 99, 116]⟩, ⟨#[78, 111, 98, 111, 100, 121]⟩, ⟨#[70, 97, 117, 108, 116]⟩, ⟨#[83, 105, 122, 101, 70, 97, 117, 108, 116]⟩].getD j es
def ifsI (i : Nat) : List ByteArray := [[], [⟨#[82]⟩], [⟨#[82]⟩, ⟨#[82]⟩], [⟨#[80]⟩]].getD i []
def ruA (sp : ByteArray) (kp : Int) (sq : ByteArray) (kq : Int) (L : List ByteArray) : List Cls :=
  [⟨⟨#[82]⟩, ⟨#[79, 98, 106, 101, 99, 116]⟩, [], 4, [], []⟩, ⟨⟨#[80]⟩, sp, [], kp, [], []⟩, ⟨⟨#[81]⟩, sq, L, kq, [], []⟩]
def w0I (i : Nat) (kp : Int) : Int := if i = 2 then 24 else if i = 3 then (if kp = 4 then 0 else 24) else 0
def badI (kp kq : Int) (j : Nat) : Bool := j == 2 || (j == 0 && (kp == 3 || kp == 4)) || (kq == 4 && j != 1)
def wantR (i : Nat) (kp kq : Int) (j : Nat) : Int := if badI kp kq j = true then 24 else w0I i kp
def ruB (i j kp kq : Nat) : Bool :=
  let A := ruA ⟨#[79, 98, 106, 101, 99, 116]⟩ (kp + 1) (subS j) (kq + 1) (ifsI i)
  hkB A && decide (checkK A = if wantR i (kp + 1) (kq + 1) j = 0 then (0, 0) else (2, wantR i (kp + 1) (kq + 1) j))
def ruC (i kp kq : Nat) : Bool :=
  let A := ruA ⟨#[81]⟩ (kp + 1) (subS 0) (kq + 1) (ifsI i)
  hkB A && decide (checkK A = (1, 24))
theorem ru_t : ∀ (i : Fin 4) (j : Fin 5) (kp kq : Fin 4), ruB i j kp kq = true := by decide +kernel
theorem ru_c : ∀ (i : Fin 4) (kp : Fin 2) (kq : Fin 4), ruC i kp kq = true := by decide +kernel
def RuS (W : World) (bp bq br : Nat) (kp : Int) (sq : ByteArray) (kq : Int) (vi : Value) : Prop :=
  W.heap[bp]? = some (.cells #[.string ⟨#[80]⟩, .string ⟨#[79, 98, 106, 101, 99, 116]⟩, .slice none 0 0, .int .i64 kp, .slice none 0 0, .slice none 0 0] 27 (0, 0)) ∧
  W.heap[bq]? = some (.cells #[.string ⟨#[81]⟩, .string sq, vi, .int .i64 kq, .slice none 0 0, .slice none 0 0] 27 (0, 0)) ∧
  W.heap[br]? = some (.cells #[.string ⟨#[82]⟩, .string ⟨#[79, 98, 106, 101, 99, 116]⟩, .slice none 0 0, .int .i64 4, .slice none 0 0, .slice none 0 0] 27 (0, 0)) ∧ bp ≠ bq ∧ br ≠ bq
theorem RuS.below {W W' : World} {bp bq br : Nat} {kp : Int} {sq : ByteArray} {kq : Int} {vi : Value} (h : RuS W bp bq br kp sq kq vi) (hb : Below W.heap.size W W') : RuS W' bp bq br kp sq kq vi :=
  ⟨(hb.block _ (Array.getElem?_eq_some_iff.1 h.1).1).trans h.1, (hb.block _ (Array.getElem?_eq_some_iff.1 h.2.1).1).trans h.2.1, (hb.block _ (Array.getElem?_eq_some_iff.1 h.2.2.1).1).trans h.2.2.1, h.2.2.2⟩
theorem RuS.ifs {W : World} {bp bq br : Nat} {kp : Int} {sq : ByteArray} {kq : Int} {vi : Value} (h : RuS W bp bq br kp sq kq vi) (v : Value) : RuS (W.setCell ⟨bq, 2, none⟩ v) bp bq br kp sq kq v := by
  obtain ⟨h1, h2, h3, h4, h5⟩ := h
  have k : Kpt [bq] W (W.setCell ⟨bq, 2, none⟩ v) := Kpt.set _ _ _ _ _ (by simp)
  exact ⟨(k.2 _ (Array.getElem?_eq_some_iff.1 h1).1 (by simpa using h4)).trans h1, by rw [heap_setCell_same _ _ 2 _ _ _ h2]; rfl, (k.2 _ (Array.getElem?_eq_some_iff.1 h3).1 (by simpa using h5)).trans h3, h4, h5⟩
theorem two_al (w : World) (X : Obj) (cs : Array Value) (T : TypeId) : ((w.alloc X).alloc (.cells cs T)).heap[w.heap.size + 1]? = some (.cells cs T (0, 0)) := by
  have h := heap_alloc_new (w.alloc X) (.cells cs T)
  rwa [World.size_alloc] at h
theorem two_bl (w : World) (X Y : Obj) : Below w.heap.size w ((w.alloc X).alloc Y) := (below_alR w X).trans ((below_alR _ Y).mono (by simp))
theorem rd_tx {W : World} {g : Nat} {cs : Array Value} (ls : List ByteArray) (h : W.heap[g]? = some (.cells cs 9 (0, 0))) (hcs : cs.toList = (ls.map strC).flatten) : RdX 1 (sP strC) anyB W (.slice (some ⟨g, 0, none⟩) ls.length ls.length) ls := by
  refine rd_block (P := sP strC) (ls.map strC) ls cs h hcs trivial ?_ _ _ rfl (Nat.le_refl _)
  induction ls with
  | nil => trivial
  | cons a l ih => exact ⟨⟨rfl, rfl⟩, all2_of (by simp) (fun j y hy => ⟨strC y, by simp [hy], rfl, rfl⟩)⟩
theorem set_al (w : World) (a : Addr) (v : Value) (cs : Array Value) (T : TypeId) : ((w.setCell a v).alloc (.cells cs T)).heap[w.heap.size]? = some (.cells cs T (0, 0)) := by
  have h := heap_alloc_new (w.setCell a v) (.cells cs T)
  rwa [World.size_setCell] at h
theorem set_bl {w : World} {B g o : Nat} {v : Value} (X : Obj) (hg : B ≤ g) (hB : B ≤ w.heap.size) : Below B w ((w.setCell ⟨g, o, none⟩ v).alloc X) :=
  ((Kpt.set [g] w g o v (by simp)).below (fun x hx => by simp at hx; omega) hB).trans ((below_alR _ X).mono (by simpa using hB))
def lpB (loop : Bool) (kp : Int) : Bool := loop && kp != 4 && kp != 3
theorem ru_rd {W : World} {gc : Nat} {sp sq : ByteArray} {kp kq : Int} {vi : Value} {L : List ByteArray} (hc : W.heap[gc]? = some (.cells #[.string ⟨#[82]⟩, .string ⟨#[79, 98, 106, 101, 99, 116]⟩, .slice none 0 0, .int .i64 4, .slice none 0 0, .slice none 0 0, .string ⟨#[80]⟩, .string sp, .slice none 0 0, .int .i64 kp, .slice none 0 0, .slice none 0 0, .string ⟨#[81]⟩, .string sq, vi, .int .i64 kq, .slice none 0 0, .slice none 0 0] 27 (0, 0))) (hv : RdX 1 (sP strC) anyB W vi L) :
    RdX 6 cP anyB W (.slice (some ⟨gc, 0, none⟩) (ruA sp kp sq kq L).length 3) (ruA sp kp sq kq L) :=
  rd_block (P := cP) [[.string ⟨#[82]⟩, .string ⟨#[79, 98, 106, 101, 99, 116]⟩, .slice none 0 0, .int .i64 4, .slice none 0 0, .slice none 0 0], [.string ⟨#[80]⟩, .string sp, .slice none 0 0, .int .i64 kp, .slice none 0 0, .slice none 0 0], [.string ⟨#[81]⟩, .string sq, vi, .int .i64 kq, .slice none 0 0, .slice none 0 0]] (ruA sp kp sq kq L) _ hc rfl trivial
    ⟨⟨⟨_, _, _, rfl, RdX.nil _ _ _ _, RdX.nil _ _ _ _, RdX.nil _ _ _ _⟩, rfl⟩, ⟨⟨_, _, _, rfl, RdX.nil _ _ _ _, RdX.nil _ _ _ _, RdX.nil _ _ _ _⟩, rfl⟩, ⟨⟨_, _, _, rfl, hv, RdX.nil _ _ _ _, RdX.nil _ _ _ _⟩, rfl⟩, trivial⟩ 3 3 rfl (Nat.le_refl _)
theorem ru_ok {i j kp kq : Nat} (hi : i < 4) (hj : j < 5) (hp : kp < 4) (hq : kq < 4) : hkB (ruA ⟨#[79, 98, 106, 101, 99, 116]⟩ (kp + 1) (subS j) (kq + 1) (ifsI i)) = true ∧ checkK (ruA ⟨#[79, 98, 106, 101, 99, 116]⟩ (kp + 1) (subS j) (kq + 1) (ifsI i)) = if wantR i (kp + 1) (kq + 1) j = 0 then (0, 0) else (2, wantR i (kp + 1) (kq + 1) j) := by
  have h := ru_t ⟨i, hi⟩ ⟨j, hj⟩ ⟨kp, hp⟩ ⟨kq, hq⟩
  unfold ruB at h
  simp only [Bool.and_eq_true, decide_eq_true_eq] at h
  exact h
theorem ru_lp {i kp kq : Nat} (hi : i < 4) (hp : kp < 2) (hq : kq < 4) : hkB (ruA ⟨#[81]⟩ (kp + 1) (subS 0) (kq + 1) (ifsI i)) = true ∧ checkK (ruA ⟨#[81]⟩ (kp + 1) (subS 0) (kq + 1) (ifsI i)) = (1, 24) := by
  have h := ru_c ⟨i, hi⟩ ⟨kp, hp⟩ ⟨kq, hq⟩
  unfold ruC at h
  simp only [Bool.and_eq_true, decide_eq_true_eq] at h
  exact h
theorem lp_small {loop : Bool} {kp : Nat} (h : lpB loop ((kp : Int) + 1) = true) (hp : kp < 4) : kp < 2 := by
  have hp4 : kp = 0 ∨ kp = 1 ∨ kp = 2 ∨ kp = 3 := by omega
  rcases hp4 with rfl | rfl | rfl | rfl
  · decide
  · decide
  · cases loop <;> exact absurd h (by decide)
  · cases loop <;> exact absurd h (by decide)
set_option maxHeartbeats 8000000 in
set_option maxRecDepth 100000 in
theorem rules_l (kind super sub : Nat) (loop : Bool) (iface : Nat) (w : World) (hk : kind < 256) (hp : super < 256) (hs : sub < 256) (hf : iface < 256) :
    Calls Tryz.prog 3 #[.int .u8 (kind : Int), .int .u8 (super : Int), .int .u8 (sub : Int), .bool loop, .int .u8 (iface : Int)] w fun e w' => e = .returned (.bool true) ∧ Below w.heap.size w w' := by
  go_enter Tryz.func3, Tryz.ntmps3
  try simp only [List.append_eq, List.cons_append, List.nil_append]
  go_wp2_with fail
  refine (known_10 w).mono ?_
  rintro e w1 ⟨rfl, hb1⟩
  obtain ⟨kq, hkq, hql⟩ : ∃ kk : Nat, (kind : Int).tmod 4 = (kk : Int) ∧ kk < 4 := ⟨kind % 4, by rw [Int.tmod_eq_emod_of_nonneg (Int.natCast_nonneg kind)]; omega, by omega⟩
  obtain ⟨kp, hkp, hpl⟩ : ∃ kk : Nat, (super : Int).tmod 4 = (kk : Int) ∧ kk < 4 := ⟨super % 4, by rw [Int.tmod_eq_emod_of_nonneg (Int.natCast_nonneg super)]; omega, by omega⟩
  obtain ⟨j, hj, hjl⟩ : ∃ kk : Nat, (sub : Int).tmod 5 = (kk : Int) ∧ kk < 5 := ⟨sub % 5, by rw [Int.tmod_eq_emod_of_nonneg (Int.natCast_nonneg sub)]; omega, by omega⟩
  obtain ⟨i, hi, hil⟩ : ∃ kk : Nat, (iface : Int).tmod 4 = (kk : Int) ∧ kk < 4 := ⟨iface % 4, by rw [Int.tmod_eq_emod_of_nonneg (Int.natCast_nonneg iface)]; omega, by omega⟩
  have HJ := Lib.hid hj
  have HI := Lib.hid hi
  have HKQ := Lib.hid hkq
  have hp1 : IntKind.i64.wrap (kp : Int) = kp := IntWalk.i64_in _ (by omega)
  have hp2 : IntKind.i64.wrap ((kp : Int) + 1) = (kp : Int) + 1 := IntWalk.i64_in _ (by omega)
  have hq1 : IntKind.i64.wrap (kq : Int) = kq := IntWalk.i64_in _ (by omega)
  have hq2 : IntKind.i64.wrap ((kq : Int) + 1) = (kq : Int) + 1 := IntWalk.i64_in _ (by omega)
  have HQ1 := Lib.hid hq1
  have HQ2 := Lib.hid hq2
  clear hj hi hkq hq1 hq2
  obtain ⟨w2, hw2⟩ : ∃ x, x = w1.alloc (.cells #[.string ⟨#[80]⟩, .string ⟨#[79, 98, 106, 101, 99, 116]⟩, .slice none 0 0, .int .i64 ((kp : Int) + 1), .slice none 0 0, .slice none 0 0] 27) := ⟨_, rfl⟩
  have HP2 : Hid (w2.heap[w1.heap.size]? = some (.cells #[.string ⟨#[80]⟩, .string ⟨#[79, 98, 106, 101, 99, 116]⟩, .slice none 0 0, .int .i64 ((kp : Int) + 1), .slice none 0 0, .slice none 0 0] 27 (0, 0))) := Lib.hid (by rw [hw2]; exact heap_alloc_new _ _)
  have HB2 : Hid (Below w.heap.size w w2) := Lib.hid (by rw [hw2]; exact hb1.trans ((below_alR _ _).mono hb1.size))
  go_upto_region 4 with fail
  rw [← hw2]
  clear hw2 hp1 hp2 hkp hb1
  obtain ⟨bp, hbp⟩ : ∃ z, w1.heap.size = z := ⟨_, rfl⟩
  rw [hbp] at HP2 ⊢
  clear hbp
  obtain ⟨KP, hKP⟩ : ∃ z, (kp : Int) + 1 = z := ⟨_, rfl⟩
  rw [hKP] at HP2
  try rw [hKP]
  have HKP := Lib.hid hKP
  obtain ⟨KQ, hKQ⟩ : ∃ z, (kq : Int) + 1 = z := ⟨_, rfl⟩
  have HKQ2 := Lib.hid hKQ
  clear hKP hKQ
  go_cut [12] (fun s12 wx => ∃ x, s12 = .pointer (some ⟨x, 0, none⟩) ∧ w2.heap.size ≤ x ∧ Hid (wx.heap[x]? = some (.cells #[.string ⟨#[81]⟩, .string (subS j), .slice none 0 0, .int .i64 KQ, .slice none 0 0, .slice none 0 0] 27 (0, 0))) ∧ Hid (Below w2.heap.size w2 wx))
  case first =>
    have hj := HJ.out
    have hkq := HKQ.out
    have hq1 := HQ1.out
    have hq2 := HQ2.out
    obtain rfl := HKQ2.out
    have hj5 : j = 0 ∨ j = 1 ∨ j = 2 ∨ j = 3 ∨ j = 4 := by omega
    clear HJ HKQ HQ1 HQ2 HKQ2
    rcases hj5 with rfl | rfl | rfl | rfl | rfl
    all_goals
      go_wp2_with fail
      go_meet
      case rel => exact ⟨_, rfl, by omega, Lib.hid (two_al _ _ _ _), Lib.hid (two_bl _ _ _)⟩
  case rest =>
    obtain ⟨bq, rfl, hbq, HQc, HBc⟩ := hcut
    clear HKQ HQ1 HQ2
    have hbl := (Array.getElem?_eq_some_iff.1 HP2.out).1
    have hql := (Array.getElem?_eq_some_iff.1 HQc.out).1
    obtain ⟨w4, hw4⟩ : ∃ x, x = wc.alloc (.cells #[.string ⟨#[82]⟩, .string ⟨#[79, 98, 106, 101, 99, 116]⟩, .slice none 0 0, .int .i64 4, .slice none 0 0, .slice none 0 0] 27) := ⟨_, rfl⟩
    have c4 : Below wc.heap.size wc w4 := by rw [hw4]; exact below_alR _ _
    have HS : Hid (RuS w4 bp bq wc.heap.size KP (subS j) KQ (.slice none 0 0)) := Lib.hid ⟨(c4.block _ (Nat.lt_of_lt_of_le hbl HBc.out.size)).trans ((HBc.out.block _ hbl).trans HP2.out), (c4.block _ hql).trans HQc.out, by rw [hw4]; exact heap_alloc_new _ _, by omega, by omega⟩
    have HB4 := Lib.hid ((HB2.out.trans (HBc.out.mono HB2.out.size)).trans (c4.mono (by have := HB2.out.size; have := HBc.out.size; omega)))
    have HGE : Hid (w.heap.size ≤ bq) := Lib.hid (by have := HB2.out.size; omega)
    have hi := HI.out
    clear c4 HP2 HQc HBc HB2 hbl hql hbq
    go_upto_block 0 with fail
    rw [← hw4]
    clear hw4 hi
    obtain ⟨br, hbr⟩ : ∃ z, wc.heap.size = z := ⟨_, rfl⟩
    rw [hbr] at HS
    try rw [hbr]
    clear hbr
    go_cut [14] (fun s14 wx => ∃ pv nv cv, s14 = .int .i64 (w0I i KP) ∧ Hid (RuS wx bp bq br KP (subS j) KQ (.slice pv nv cv)) ∧ Hid (RdX 1 (sP strC) anyB wx (.slice pv nv cv) (ifsI i)) ∧ Hid (Below w.heap.size w wx))
    case first =>
      obtain ⟨q_l, q_c, q_f⟩ := boxN HS.out.2.1
      have q_2 := q_c 2 _ rfl
      have q_z := q_f 2
      obtain ⟨p_l, p_c, -⟩ := boxN HS.out.1
      have p_3 := p_c 3 _ rfl
      simp only [Nat.zero_add] at q_2 p_3
      clear q_c q_f p_c
      have hi4 : i = 0 ∨ i = 1 ∨ i = 2 ∨ i = 3 := by omega
      have hge := HGE.out
      rcases hi4 with rfl | rfl | rfl | rfl
      · go_wp2_with fail
        go_meet
        case rel => exact ⟨_, _, _, rfl, HS, Lib.hid (RdX.nil _ _ _ _), HB4⟩
      · go_wp2_with fail
        go_meet
        case rel => exact ⟨_, _, _, rfl, Lib.hid ((HS.out.ifs _).below (below_alR _ _)), Lib.hid (rd_tx [⟨#[82]⟩] (set_al _ _ _ _ _) rfl), Lib.hid (HB4.out.trans (set_bl _ hge HB4.out.size))⟩
      · go_wp2_with fail
        go_meet
        case rel => exact ⟨_, _, _, rfl, Lib.hid ((HS.out.ifs _).below (below_alR _ _)), Lib.hid (rd_tx [⟨#[82]⟩, ⟨#[82]⟩] (set_al _ _ _ _ _) rfl), Lib.hid (HB4.out.trans (set_bl _ hge HB4.out.size))⟩
      · by_cases h4 : KP = 4
        · have h4b : (KP != 4) = false := by simp [h4]
          go_wp2_with fail
          go_meet
          case rel => exact ⟨_, _, _, by unfold w0I; simp [h4], Lib.hid ((HS.out.ifs _).below (below_alR _ _)), Lib.hid (rd_tx [⟨#[80]⟩] (set_al _ _ _ _ _) rfl), Lib.hid (HB4.out.trans (set_bl _ hge HB4.out.size))⟩
        · have h4b : (KP != 4) = true := by simp [h4]
          go_wp2_with fail
          go_meet
          case rel => exact ⟨_, _, _, by unfold w0I; simp [h4], Lib.hid ((HS.out.ifs _).below (below_alR _ _)), Lib.hid (rd_tx [⟨#[80]⟩] (set_al _ _ _ _ _) rfl), Lib.hid (HB4.out.trans (set_bl _ hge HB4.out.size))⟩
    case rest =>
      obtain ⟨pv, nv, cv, rfl, HS5, HV5, HB5⟩ := hcut
      clear HS HB4
      obtain ⟨w5, rfl⟩ : ∃ x, x = wc := ⟨_, rfl⟩
      obtain ⟨p_l, p_c, -⟩ := boxN HS5.out.1
      obtain ⟨q_l, q_c, -⟩ := boxN HS5.out.2.1
      obtain ⟨r_l, r_c, -⟩ := boxN HS5.out.2.2.1
      have p_3 := p_c 3 _ rfl
      have q_1 := q_c 1 _ rfl
      have q_3 := q_c 3 _ rfl
      simp only [Nat.zero_add] at p_3 q_1 q_3
      go_upto_region 17 with fail
      go_cut [15] (fun s15 wx => s15 = .bool (badI KP KQ j) ∧ Hid (wx = w5))
      case first =>
        clear p_c q_c r_c
        have hj := HJ.out
        clear HJ HKP HKQ2 HS5 HV5 HB5 HI HGE
        have hj5 : j = 0 ∨ j = 1 ∨ j = 2 ∨ j = 3 ∨ j = 4 := by omega
        rcases hj5 with rfl | rfl | rfl | rfl | rfl
        · have ht : ((subS 0).toList == [79, 98, 106, 101, 99, 116]) = false := by decide +kernel
          cases h3 : (KP == 3) with
          | true =>
            go_wp2_with fail
            go_meet
            case rel => exact ⟨by simp [badI, h3], Lib.hid rfl⟩
          | false =>
            cases h4 : (KP == 4) with
            | true =>
              go_wp2_with fail
              go_meet
              case rel => exact ⟨by simp [badI, h3, h4], Lib.hid rfl⟩
            | false =>
              cases hq : (KQ == 4) with
              | true =>
                go_wp2_with fail
                go_meet
                case rel => exact ⟨by simp [badI, h3, h4, hq], Lib.hid rfl⟩
              | false =>
                go_wp2_with fail
                go_meet
                case rel => exact ⟨by simp [badI, h3, h4, hq], Lib.hid rfl⟩
        · have ht : ((subS 1).toList == [79, 98, 106, 101, 99, 116]) = true := by decide +kernel
          cases hq : (KQ == 4) with
          | true =>
            go_wp2_with fail
            go_meet
            case rel => exact ⟨by simp [badI, hq], Lib.hid rfl⟩
          | false =>
            go_wp2_with fail
            go_meet
            case rel => exact ⟨by simp [badI, hq], Lib.hid rfl⟩
        · go_wp2_with fail
          go_meet
          case rel => exact ⟨rfl, Lib.hid rfl⟩
        · have ht : ((subS 3).toList == [79, 98, 106, 101, 99, 116]) = false := by decide +kernel
          cases hq : (KQ == 4) with
          | true =>
            go_wp2_with fail
            go_meet
            case rel => exact ⟨by simp [badI, hq], Lib.hid rfl⟩
          | false =>
            go_wp2_with fail
            go_meet
            case rel => exact ⟨by simp [badI, hq], Lib.hid rfl⟩
        · have ht : ((subS 4).toList == [79, 98, 106, 101, 99, 116]) = false := by decide +kernel
          cases hq : (KQ == 4) with
          | true =>
            go_wp2_with fail
            go_meet
            case rel => exact ⟨by simp [badI, hq], Lib.hid rfl⟩
          | false =>
            go_wp2_with fail
            go_meet
            case rel => exact ⟨by simp [badI, hq], Lib.hid rfl⟩
      case rest =>
        obtain ⟨rfl, hwc⟩ := hcut
        obtain rfl := hwc.out
        clear hwc
        obtain ⟨bd, hbd⟩ : ∃ x, badI KP KQ j = x := ⟨_, rfl⟩
        have HBD := Lib.hid hbd
        rw [hbd]
        clear hbd
        go_upto_if 84 with fail
        go_cut [14] (fun s14 wx => s14 = .int .i64 (wantR i KP KQ j) ∧ Hid (wx = wc))
        case first =>
          cases bd with
          | true =>
            go_wp2_with fail
            go_meet
            case rel => exact ⟨by unfold wantR; rw [HBD.out]; rfl, Lib.hid rfl⟩
          | false =>
            go_wp2_with fail
            go_meet
            case rel => exact ⟨by unfold wantR; rw [HBD.out]; rfl, Lib.hid rfl⟩
        case rest =>
          obtain ⟨rfl, hwc⟩ := hcut
          obtain rfl := hwc.out
          clear hwc HBD
          obtain ⟨wt, hwt⟩ : ∃ x, wantR i KP KQ j = x := ⟨_, rfl⟩
          have HWT := Lib.hid hwt
          rw [hwt]
          clear hwt
          have p_0 := p_c 0 _ rfl
          have p_1 := p_c 1 _ rfl
          have p_2 := p_c 2 _ rfl
          have p_4 := p_c 4 _ rfl
          have p_5 := p_c 5 _ rfl
          have q_0 := q_c 0 _ rfl
          have q_2 := q_c 2 _ rfl
          have q_4 := q_c 4 _ rfl
          have q_5 := q_c 5 _ rfl
          have r_0 := r_c 0 _ rfl
          have r_1 := r_c 1 _ rfl
          have r_2 := r_c 2 _ rfl
          have r_3 := r_c 3 _ rfl
          have r_4 := r_c 4 _ rfl
          have r_5 := r_c 5 _ rfl
          simp only [Nat.zero_add] at p_0 p_1 p_2 p_4 p_5 q_0 q_2 q_4 q_5 r_0 r_1 r_2 r_3 r_4 r_5
          clear p_c q_c r_c
          go_upto_region 20 with fail
          obtain ⟨w6, hw6⟩ : ∃ x, x = (wc.alloc (.cells #[.string ⟨#[82]⟩, .string ⟨#[79, 98, 106, 101, 99, 116]⟩, .slice none 0 0, .int .i64 4, .slice none 0 0, .slice none 0 0, .string ⟨#[80]⟩, .string ⟨#[79, 98, 106, 101, 99, 116]⟩, .slice none 0 0, .int .i64 KP, .slice none 0 0, .slice none 0 0, .string ⟨#[81]⟩, .string (subS j), .slice pv nv cv, .int .i64 KQ, .slice none 0 0, .slice none 0 0] 27)).alloc (.cells #[.slice (some ⟨wc.heap.size, 0, none⟩) 3 3] 30) := ⟨_, rfl⟩
          have HC6 : Hid (w6.heap[wc.heap.size]? = some (.cells #[.string ⟨#[82]⟩, .string ⟨#[79, 98, 106, 101, 99, 116]⟩, .slice none 0 0, .int .i64 4, .slice none 0 0, .slice none 0 0, .string ⟨#[80]⟩, .string ⟨#[79, 98, 106, 101, 99, 116]⟩, .slice none 0 0, .int .i64 KP, .slice none 0 0, .slice none 0 0, .string ⟨#[81]⟩, .string (subS j), .slice pv nv cv, .int .i64 KQ, .slice none 0 0, .slice none 0 0] 27 (0, 0))) := Lib.hid (by rw [hw6, (below_alR _ _).block _ (by simp)]; exact heap_alloc_new _ _)
          have HX6 : Hid (w6.heap[wc.heap.size + 1]? = some (.cells #[.slice (some ⟨wc.heap.size, 0, none⟩) 3 3] 30 (0, 0))) := Lib.hid (by rw [hw6]; exact two_al _ _ _ _)
          have c6 : Below wc.heap.size wc w6 := by rw [hw6]; exact two_bl _ _ _
          have HB6 := Lib.hid (HB5.out.trans (c6.mono HB5.out.size))
          have HC56 := Lib.hid c6
          have HS6 := Lib.hid (HS5.out.below c6)
          have HGC := Lib.hid HB5.out.size
          clear c6 HS5
          go_upto_region 21 with fail
          rw [← hw6]
          clear hw6 p_0 p_1 p_2 p_3 p_4 p_5 q_0 q_1 q_2 q_3 q_4 q_5 r_0 r_1 r_2 r_3 r_4 r_5 p_l q_l r_l
          obtain ⟨gc, hgc⟩ : ∃ z, wc.heap.size = z := ⟨_, rfl⟩
          have HGE2 := Lib.hid hgc
          rw [hgc] at HC6 HX6 HGC HC56
          try rw [hgc]
          clear hgc
          obtain ⟨p_l, p_c, -⟩ := boxN HS6.out.1
          have p_3 := p_c 3 _ rfl
          simp only [Nat.zero_add] at p_3
          clear p_c
          go_cut [100] (fun s100 wx => s100 = .bool (lpB loop KP) ∧ Hid (wx = w6))
          case first =>
            clear HKP HS6 HC6 HX6 HC56 HB6 HV5 HB5
            cases loop with
            | false =>
              go_wp2_with fail
              go_meet
              case rel => exact ⟨rfl, Lib.hid rfl⟩
            | true =>
              cases h4 : (KP == 4) with
              | true =>
                have h4n : (KP != 4) = false := by simp [bne, h4]
                go_wp2_with fail
                go_meet
                case rel => exact ⟨by simp [lpB, h4, bne], Lib.hid rfl⟩
              | false =>
                have h4n : (KP != 4) = true := by simp [bne, h4]
                cases h3 : (KP == 3) with
                | true =>
                  have h3n : (KP != 3) = false := by simp [bne, h3]
                  go_wp2_with fail
                  go_meet
                  case rel => exact ⟨by simp [lpB, h4, h3, bne], Lib.hid rfl⟩
                | false =>
                  have h3n : (KP != 3) = true := by simp [bne, h3]
                  go_wp2_with fail
                  go_meet
                  case rel => exact ⟨by simp [lpB, h4, h3, bne], Lib.hid rfl⟩
          case rest =>
            obtain ⟨rfl, hw6⟩ := hcut
            obtain ⟨wr, hwr⟩ : ∃ x, x = w6 := ⟨_, rfl⟩
            have hw7 := hw6.out.trans hwr.symm
            clear hw6
            subst hw7
            subst hwr
            clear p_l p_3
            obtain ⟨x_l, x_c, -⟩ := boxN HX6.out
            have x_0 := x_c 0 _ rfl
            simp only [Nat.zero_add] at x_0
            obtain ⟨g_l, g_c, g_f⟩ := boxN HC6.out
            have g_7 := g_c 7 _ rfl
            have g_z := g_f 7
            simp only [Nat.zero_add] at g_7
            clear x_c g_c g_f HS6
            obtain ⟨lb, hlb⟩ : ∃ x, lpB loop KP = x := ⟨_, rfl⟩
            have HLB := Lib.hid hlb
            rw [hlb]
            clear hlb
            cases lb with
            | true =>
              have hk2 : kp < 2 := lp_small (by rw [HKP.out]; exact HLB.out) hpl
              obtain ⟨W7, hW7⟩ : ∃ x, x = wc.setCell ⟨gc, 7, none⟩ (.string ⟨#[81]⟩) := ⟨_, rfl⟩
              have k7 : Kpt [gc] wc W7 := by rw [hW7]; exact Kpt.set _ _ _ _ _ (by simp)
              have HC7 : Hid (W7.heap[gc]? = some (.cells #[.string ⟨#[82]⟩, .string ⟨#[79, 98, 106, 101, 99, 116]⟩, .slice none 0 0, .int .i64 4, .slice none 0 0, .slice none 0 0, .string ⟨#[80]⟩, .string ⟨#[81]⟩, .slice none 0 0, .int .i64 KP, .slice none 0 0, .slice none 0 0, .string ⟨#[81]⟩, .string (subS j), .slice pv nv cv, .int .i64 KQ, .slice none 0 0, .slice none 0 0] 27 (0, 0))) := Lib.hid (by rw [hW7, heap_setCell_same _ _ 7 _ _ _ HC6.out]; rfl)
              have HX7 := Lib.hid ((k7.2 _ x_l (by simp)).trans HX6.out)
              have HV7 := Lib.hid (HV5.out.any (sP.grow _) (HGE2.out ▸ (HC56.out.trans (k7.below (B := gc) (fun x hx => by simp at hx; omega) (by omega)))))
              have HB7 := Lib.hid (HB6.out.trans (k7.below (B := w.heap.size) (fun x hx => by simp at hx; have := HGC.out; omega) (by have := HGC.out; omega)))
              have hj := HJ.out
              clear k7
              go_upto_region 23 with fail
              rw [← hW7]
              clear hW7 x_0 x_l g_l g_7 g_z
              obtain ⟨x_l, x_c, -⟩ := boxN HX7.out
              have x_0 := x_c 0 _ rfl
              simp only [Nat.zero_add] at x_0
              clear x_c
              by_cases hj0 : j = 0
              · subst hj0
                have hck := check_h (ruA ⟨#[81]⟩ KP (subS 0) KQ (ifsI i)) (some ⟨gc, 0, none⟩) 3 anyB W7 (ru_rd HC7.out HV7.out) (ckA_of (by rw [← HKP.out, ← HKQ2.out]; exact (ru_lp hil hk2 hql).1))
                rw [show (ruA ⟨#[81]⟩ KP (subS 0) KQ (ifsI i)).length = 3 from rfl, show checkK (ruA ⟨#[81]⟩ KP (subS 0) KQ (ifsI i)) = (1, 24) by rw [← HKP.out, ← HKQ2.out]; exact (ru_lp hil hk2 hql).2] at hck
                have HCK := Lib.hid hck
                clear hck
                go_wp2_with fail
                refine HCK.out.mono ?_
                rintro e w8 ⟨rfl, hb8⟩
                have HB8 := Lib.hid (HB7.out.trans (hb8.mono HB7.out.size))
                clear hb8 x_l x_0
                go_wp2_with fail
                go_ret
                exact ⟨rfl, HB8.out⟩
              · have hjb : ((j : Int) == 0) = false := by simp; omega
                go_wp2_with fail
                go_ret
                exact ⟨rfl, HB7.out⟩
            | false =>
              have HV7 := Lib.hid (HV5.out.any (sP.grow _) (HGE2.out ▸ HC56.out))
              have hck := check_h (ruA ⟨#[79, 98, 106, 101, 99, 116]⟩ KP (subS j) KQ (ifsI i)) (some ⟨gc, 0, none⟩) 3 anyB wc (ru_rd HC6.out HV7.out) (ckA_of (by rw [← HKP.out, ← HKQ2.out]; exact (ru_ok hil hjl hpl hql).1))
              rw [show (ruA ⟨#[79, 98, 106, 101, 99, 116]⟩ KP (subS j) KQ (ifsI i)).length = 3 from rfl, show checkK (ruA ⟨#[79, 98, 106, 101, 99, 116]⟩ KP (subS j) KQ (ifsI i)) = if wt = 0 then (0, 0) else (2, wt) by rw [← HWT.out, ← HKP.out, ← HKQ2.out]; exact (ru_ok hil hjl hpl hql).2] at hck
              have HCK := Lib.hid hck
              clear hck g_l g_7 g_z
              go_wp2_with fail
              have hck := HCK.out
              clear HCK
              by_cases hz : wt = 0
              · rw [if_pos hz] at hck
                refine hck.mono ?_
                rintro e w8 ⟨rfl, hb8⟩
                have HB8 := Lib.hid (HB6.out.trans (hb8.mono HB6.out.size))
                subst hz
                clear hck hb8 x_l x_0
                go_wp2_with fail
                go_ret
                exact ⟨rfl, HB8.out⟩
              · rw [if_neg hz] at hck
                refine hck.mono ?_
                rintro e w8 ⟨rfl, hb8⟩
                have HB8 := Lib.hid (HB6.out.trans (hb8.mono HB6.out.size))
                have hzb : (wt == 0) = false := by simp [hz]
                clear hck hb8 x_l x_0
                go_wp2_with fail
                go_ret
                exact ⟨rfl, HB8.out⟩
end Go.Proofs.YtlmpnmnfloeoiaaGreat.R
