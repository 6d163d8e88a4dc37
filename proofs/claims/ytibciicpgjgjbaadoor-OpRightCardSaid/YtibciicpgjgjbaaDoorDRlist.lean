/- What the answers' reader of lists of types answers. -/
import Derived.Test.YtibciicpgjgjbaaDoorDList
namespace Go.Proofs.YtibciicpgjgjbaaDoor
open Go.RowKit

theorem dropk (s : ByteArray) (k : Nat) : s.extract k s.size = bx (s.data.toList.drop k) := by
  rw [Lib.extract_eq, bx]
  rw [List.take_of_length_le (by rw [List.length_drop, ← Lib.size_eq]; omega)]

theorem box_facts {w w1 : World} {a b : Value} {T : TypeId} (hb : Below (w.heap.size + 1) (w.alloc (.cells #[a, b] T)) w1) :
    w.heap.size < w1.heap.size ∧ ¬ w.heap.size = w1.heap.size ∧ w1.cell? ⟨w.heap.size, 0, none⟩ = some a ∧ w1.cell? ⟨w.heap.size, 1, none⟩ = some b ∧
      w1.frozen? ⟨w.heap.size, 0, none⟩ = false ∧ w1.frozen? ⟨w.heap.size, 1, none⟩ = false ∧ Below w.heap.size w w1 :=
  box2 (hb.mono (by simp))

theorem pre_c41 {l : List UInt8} {c : UInt8} {r : List UInt8} (h : l = c :: r) (hc : ¬ c = 41) : Lib.hasPrefix l [41] = false := by
  subst h
  simp only [Lib.hasPrefix, List.isPrefixOf, Bool.and_true, beq_eq_false_iff_ne, ne_eq]
  exact fun e => hc e.symm

theorem nextR_zero {l : List UInt8} : (nextR l).2 = 0 ↔ (firstR l).2.2 = false := by
  unfold nextR
  cases h : (firstR l).2.2 with
  | false => simp
  | true =>
    have := firstR_len (s := l) (t := (firstR l).1) (rest := (firstR l).2.1) (by rw [← h])
    simp
    omega

theorem nextR_drop {l : List UInt8} (h : (firstR l).2.2 = true) : (nextR l).1 = (firstR l).1 ∧ l.drop (nextR l).2 = (firstR l).2.1 := by
  have ht := (firstR_text (s := l) (t := (firstR l).1) (rest := (firstR l).2.1) (by rw [← h])).1
  unfold nextR
  rw [if_pos h]
  refine ⟨rfl, ?_⟩
  show l.drop (l.length - (firstR l).2.1.length) = _
  have e : l.length - (firstR l).2.1.length = (typeL (firstR l).1).length := by
    have := congrArg List.length ht
    rw [List.length_append] at this
    omega
  rw [e]
  have h2 := congrArg (List.drop (typeL (firstR l).1).length) ht
  rw [List.drop_left' rfl] at h2
  exact h2.symm

set_option maxHeartbeats 2000000 in
theorem rparse_any (s : ByteArray) (w : World) (hs : s.size ≤ 4294967280) :
    Calls Tryd.prog 26 #[.string s] w fun e w' => ∃ v ps t ok, Hid (parseR s.data.toList = (ps, t, ok)) ∧ e = .returned (.tuple #[v, tyv t, .bool ok]) ∧ OwnT w' w.heap.size v ps ∧ Below w.heap.size w w' := by
  by_cases h0 : s.size = 0
  · have HF : Hid (parseR s.data.toList = ([], t0, false)) := Lib.hid (by
      have := Lib.size_eq s
      rw [List.eq_nil_of_length_eq_zero (l := s.data.toList) (by omega)]; rfl)
    obtain rfl : s = ByteArray.empty := by
      obtain ⟨⟨l⟩⟩ := s
      have : l.length = 0 := h0
      rw [List.eq_nil_of_length_eq_zero this]; rfl
    clear h0
    go_enter Tryd.func26, Tryd.ntmps26
    go_wp2_with fail
    refine bodyPost_ret (v := .tuple #[.slice none 0 0, .agg #[.int .i64 0, .string (bx [])], .bool false]) (by simp [*, results, Tryd.results26, go_sem, bx]) rfl ⟨_, [], t0, false, HF, rfl, OwnT.nil _ _, ?_⟩
    repeat (first | exact Below.refl _ _ | assumption | refine Below.setCell (p := ⟨_, _, _⟩) ?_ (by first | (simp; done) | (simp; omega) | omega) _ | refine below_drewN ?_ _ | refine Below.drew ?_ | refine Below.alloc ?_ (by first | (simp; done) | (simp; omega) | omega) _)
  have h0' : 0 < s.size := by omega
  have hE := isEmpty_ne h0'
  have hN := toList_ne h0'
  have h0g : s.data.toList[0]? = some s[0] := Lib.data_getElem? s 0 h0'
  by_cases hc : (s[0].toNat : Int) = 40
  · have hc' : s[0] = 40 := UInt8.toNat_inj.1 (by show s[0].toNat = 40; omega)
    obtain ⟨r, hr⟩ : ∃ r, s.data.toList = 40 :: r := by
      cases hh : s.data.toList with
      | nil => rw [hh] at h0g; simp at h0g
      | cons c r =>
        rw [hh] at h0g
        simp only [List.getElem?_cons_zero, Option.some.injEq] at h0g
        rw [h0g, hc']
        exact ⟨r, rfl⟩
    have hn1 : ((s[0].toNat : Int) != 40) = false := by rw [bne_eq_false_iff_eq]; exact hc
    have HP := Lib.hid hr
    have hrl : r.length + 1 = s.size := by rw [Lib.size_eq, hr]; simp
    have hd1 : s.data.toList.drop 1 = r := by rw [hr]; rfl
    have HD := Lib.hid hd1
    have HRL := Lib.hid hrl
    have hDR : ∀ k, s.extract k s.size = bx (s.data.toList.drop k) := dropk s
    have HX := Lib.hid hDR
    have hget : ∀ k (hk : k < s.size), s.data.toList.drop k = s[k] :: s.data.toList.drop (k + 1) := by
      intro k hk
      rw [List.drop_eq_getElem_cons (by rw [← Lib.size_eq]; exact hk)]
      rfl
    have HG := Lib.hid hget
    have hlen : ∀ k, (s.data.toList.drop k).length = s.size - k := fun k => by rw [List.length_drop, ← Lib.size_eq]
    have HLn := Lib.hid hlen
    clear h0 hc hc' hr hrl hd1 hDR hget hlen h0g
    go_enter Tryd.func26, Tryd.ntmps26
    go_wp2_with fail
    go_loopw [5, 6] (fun p x wr => ∃ (k n : Nat) (ts : List Ty), k ≤ s.size ∧ x = .int .i64 k ∧ OwnT wr (w.heap.size + 1) p ts ∧ Hid (listR (r.length + 1) [] r = listR n ts (s.data.toList.drop k)) ∧ s.size - k < n ∧ ts.length ≤ 8 ∧ Below (w.heap.size + 1) (w.alloc (.cells #[.int .i64 0, .string ⟨#[]⟩] 43)) wr) (fun _ x _ => s.size - (intOf x).toNat)
    case atStart => exact ⟨1, r.length + 1, [], by omega, rfl, OwnT.nil _ _, Lib.hid (by rw [HD.out]), by have := HRL.out; omega, by simp, Below.refl _ _⟩
    case round =>
      obtain ⟨k, n, ts, hk, rfl, ho, HL, hn, ht8, hbl⟩ := hrel
      have hsr := hbl.size
      simp at hsr
      obtain ⟨hlt1, hne1, hc0, hc1, hf0, hf1, hb2⟩ := box_facts hbl
      by_cases hlt : k < s.size
      · have hgk := HG.out k hlt
        by_cases h41 : (s[k].toNat : Int) = 41
        · have h41' : s[k] = 41 := UInt8.toNat_inj.1 (by show s[k].toNat = 41; omega)
          have h41n : ((s[k].toNat : Int) != 41) = false := by rw [bne_eq_false_iff_eq]; exact h41
          have HY : Hid (parseR s.data.toList = if true && (oneR (s.data.toList.drop (k + 1))).2 then (ts, (oneR (s.data.toList.drop (k + 1))).1, true) else ([], t0, false)) := Lib.hid (by
            rw [HP.out]
            refine parseR_yes r (r.length + 1) (by omega) ?_
            rw [HL.out, hgk, h41', HP.out]
            obtain ⟨m, rfl⟩ : ∃ m, n = m + 1 := ⟨n - 1, by omega⟩
            exact listR_yes)
          obtain ⟨⟨x0, x1⟩, ok2, hO⟩ : ∃ t ok2, oneR (s.data.toList.drop (k + 1)) = (t, ok2) := ⟨_, _, rfl⟩
          have HV : Hid (Value.tuple #[tyv (oneR (bx (s.data.toList.drop (k + 1))).data.toList).1, .bool (oneR (bx (s.data.toList.drop (k + 1))).data.toList).2] = Value.tuple #[.agg #[.int .i64 x0, .string x1], .bool ok2]) := Lib.hid (by rw [bx_data, hO]; rfl)
          rw [hO] at HY
          have hxs : (bx (s.data.toList.drop (k + 1))).size ≤ 4294967280 := by rw [bx_size, HLn.out]; omega
          obtain ⟨pa, pc, hv, _⟩ := ho.rd
          subst hv
          clear h41 h41' hgk hO HL
          go_wp2_with fail
          rw [HX.out]
          refine (rone_any _ _ hxs).mono ?_
          rintro e w3 ⟨rfl, hb3⟩
          rw [HV.out]
          obtain ⟨hlt1, hne1, hc0, hc1, hf0, hf1, hb2⟩ := box_next ⟨hlt1, hne1, hc0, hc1, hf0, hf1, hb2⟩ hb3
          have ho3 := ho.below hb3 (Nat.le_refl _)
          clear hb3 ho hbl
          cases ok2 with
          | false =>
            have HF : Hid (parseR s.data.toList = ([], t0, false)) := Lib.hid (by rw [HY.out]; rfl)
            clear HY
            go_wp2_with fail
            refine bodyPost_ret (v := .tuple #[.slice none 0 0, .agg #[.int .i64 0, .string (bx [])], .bool false]) (by simp [*, results, Tryd.results26, go_sem, bx]) rfl ⟨_, [], t0, false, HF, rfl, OwnT.nil _ _, ?_⟩
            repeat (first | exact Below.refl _ _ | assumption | refine Below.setCell (p := ⟨_, _, _⟩) ?_ (by first | (simp; done) | (simp; omega) | omega) _ | refine below_drewN ?_ _ | refine Below.drew ?_ | refine Below.alloc ?_ (by first | (simp; done) | (simp; omega) | omega) _)
          | true =>
            have HF : Hid (parseR s.data.toList = (ts, (x0, x1), true)) := Lib.hid (by rw [HY.out]; rfl)
            clear HY
            go_wp2_with fail
            go_region
            all_goals go_wp2_with fail
            all_goals refine bodyPost_ret (v := .tuple #[.slice pa ts.length pc, .agg #[.int .i64 x0, .string x1], .bool true]) ?_ rfl ⟨_, ts, (x0, x1), true, HF, rfl, ?_, ?_⟩
            all_goals first | (simp [*, results, Tryd.results26, go_sem]; done) | exact ((((ho3.setCell (by simp) _).setCell (by simp) _).alloc _).drew).mono (by omega) | (repeat (first | exact Below.refl _ _ | assumption | refine Below.setCell (p := ⟨_, _, _⟩) ?_ (by first | (simp; done) | (simp; omega) | omega) _ | refine below_drewN ?_ _ | refine Below.drew ?_ | refine Below.alloc ?_ (by first | (simp; done) | (simp; omega) | omega) _))
        · have h41' : ¬ s[k] = 41 := fun e => h41 (by rw [e]; rfl)
          have h41n : ((s[k].toNat : Int) != 41) = true := by rw [bne_iff_ne]; exact h41
          have hp := pre_c41 hgk h41'
          have hz := nextR_zero (l := s.data.toList.drop k)
          have hdr := fun h => nextR_drop (l := s.data.toList.drop k) h
          have hle := nextR_le (s.data.toList.drop k)
          rw [HLn.out] at hle
          obtain ⟨⟨x0, x1⟩, rest, ok, hR⟩ : ∃ t rest ok, firstR (s.data.toList.drop k) = (t, rest, ok) := ⟨_, _, _, rfl⟩
          have HN : Hid (listR (r.length + 1) [] r = if ok = false ∨ x0 = 5 ∨ ts.length = 8 then ([], [], false) else listR (n - 1) (ts ++ [(x0, x1)]) rest) := Lib.hid (by
            rw [HL.out]
            obtain ⟨m, rfl⟩ : ∃ m, n = m + 1 := ⟨n - 1, by omega⟩
            rw [listR_no hp, hR]; rfl)
          rw [hR] at hz hdr
          simp only at hz hdr
          obtain ⟨⟨y0, y1⟩, m, hM⟩ : ∃ t m, nextR (s.data.toList.drop k) = (t, m) := ⟨_, _, rfl⟩
          have HV : Hid (Value.tuple #[tyv (nextR (bx (s.data.toList.drop k)).data.toList).1, .int .i64 (nextR (bx (s.data.toList.drop k)).data.toList).2] = Value.tuple #[.agg #[.int .i64 y0, .string y1], .int .i64 m]) := Lib.hid (by rw [bx_data, hM]; rfl)
          rw [hM] at hz hdr hle
          simp only at hz hdr hle
          have hxs : (bx (s.data.toList.drop k)).size ≤ 4294967280 := by rw [bx_size, HLn.out]; omega
          have HZ := Lib.hid hz
          have HDR := Lib.hid hdr
          have hGrest : ok = true → s.data.toList.drop (k + m) = rest := fun h => by rw [← (hdr h).2, List.drop_drop]
          have HGR := Lib.hid hGrest
          clear hp hgk h41 h41' HL hR hM hz hdr hGrest
          by_cases hcond : ok = false ∨ x0 = 5 ∨ ts.length = 8
          · have HF : Hid (parseR s.data.toList = ([], t0, false)) := Lib.hid (by
              rw [HP.out]
              refine (parseR_yes r (r.length + 1) (by omega) (by rw [HN.out, if_pos hcond])).trans ?_
              rfl)
            clear HN
            obtain ⟨pa, pc, hv, _⟩ := ho.rd
            subst hv
            cases ok with
            | false =>
              have hm0 : m = 0 := HZ.out.2 rfl
              subst hm0
              clear hcond HZ HDR HGR
              go_wp2_with fail
              rw [HX.out]
              refine (next_any _ _ hxs).mono ?_
              rintro e w3 ⟨rfl, hb3⟩
              rw [HV.out]
              obtain ⟨hlt1, hne1, hc0, hc1, hf0, hf1, hb2⟩ := box_next ⟨hlt1, hne1, hc0, hc1, hf0, hf1, hb2⟩ hb3
              clear hb3 ho hbl
              go_wp2_with fail
              refine bodyPost_ret (v := .tuple #[.slice none 0 0, .agg #[.int .i64 0, .string (bx [])], .bool false]) (by simp [*, results, Tryd.results26, go_sem, bx]) rfl ⟨_, [], t0, false, HF, rfl, OwnT.nil _ _, ?_⟩
              repeat (first | exact Below.refl _ _ | assumption | refine Below.setCell (p := ⟨_, _, _⟩) ?_ (by first | (simp; done) | (simp; omega) | omega) _ | refine below_drewN ?_ _ | refine Below.drew ?_ | refine Below.alloc ?_ (by first | (simp; done) | (simp; omega) | omega) _)
            | true =>
              have hm0 : ((m : Int) == 0) = false := by
                rw [beq_eq_false_iff_ne]
                intro e
                have := HZ.out.1 (by omega)
                cases this
              have hy : (x0, x1) = (y0, y1) := (HDR.out rfl).1.symm
              simp only [Prod.mk.injEq] at hy
              obtain ⟨rfl, rfl⟩ := hy
              by_cases h5 : x0 = 5
              · subst h5
                clear hcond HZ HDR HGR
                go_wp2_with fail
                rw [HX.out]
                refine (next_any _ _ hxs).mono ?_
                rintro e w3 ⟨rfl, hb3⟩
                rw [HV.out]
                obtain ⟨hlt1, hne1, hc0, hc1, hf0, hf1, hb2⟩ := box_next ⟨hlt1, hne1, hc0, hc1, hf0, hf1, hb2⟩ hb3
                clear hb3 ho hbl
                go_wp2_with fail
                refine bodyPost_ret (v := .tuple #[.slice none 0 0, .agg #[.int .i64 0, .string (bx [])], .bool false]) (by simp [*, results, Tryd.results26, go_sem, bx]) rfl ⟨_, [], t0, false, HF, rfl, OwnT.nil _ _, ?_⟩
                repeat (first | exact Below.refl _ _ | assumption | refine Below.setCell (p := ⟨_, _, _⟩) ?_ (by first | (simp; done) | (simp; omega) | omega) _ | refine below_drewN ?_ _ | refine Below.drew ?_ | refine Below.alloc ?_ (by first | (simp; done) | (simp; omega) | omega) _)
              · have h5' : (x0 == 5) = false := by rw [beq_eq_false_iff_ne]; exact h5
                have h8 : ts.length = 8 := by rcases hcond with h | h | h; (cases h); exact absurd h h5; exact h
                have h8' : ((ts.length : Int) == 8) = true := by rw [beq_iff_eq]; omega
                clear hcond HZ HDR HGR h5 h8
                go_wp2_with fail
                rw [HX.out]
                refine (next_any _ _ hxs).mono ?_
                rintro e w3 ⟨rfl, hb3⟩
                rw [HV.out]
                obtain ⟨hlt1, hne1, hc0, hc1, hf0, hf1, hb2⟩ := box_next ⟨hlt1, hne1, hc0, hc1, hf0, hf1, hb2⟩ hb3
                clear hb3 ho hbl
                go_wp2_with fail
                refine bodyPost_ret (v := .tuple #[.slice none 0 0, .agg #[.int .i64 0, .string (bx [])], .bool false]) (by simp [*, results, Tryd.results26, go_sem, bx]) rfl ⟨_, [], t0, false, HF, rfl, OwnT.nil _ _, ?_⟩
                repeat (first | exact Below.refl _ _ | assumption | refine Below.setCell (p := ⟨_, _, _⟩) ?_ (by first | (simp; done) | (simp; omega) | omega) _ | refine below_drewN ?_ _ | refine Below.drew ?_ | refine Below.alloc ?_ (by first | (simp; done) | (simp; omega) | omega) _)
          · have hok : ok = true := by
              cases ok with
              | false => exact absurd (.inl rfl) hcond
              | true => rfl
            subst hok
            have hmz : ¬ m = 0 := fun e => by
              have := HZ.out.1 e
              cases this
            have hm0 : ((m : Int) == 0) = false := by rw [beq_eq_false_iff_ne]; omega
            have hy : (x0, x1) = (y0, y1) := (HDR.out rfl).1.symm
            simp only [Prod.mk.injEq] at hy
            obtain ⟨rfl, rfl⟩ := hy
            have HF : Hid (listR (r.length + 1) [] r = listR (n - 1) (ts ++ [(x0, x1)]) (s.data.toList.drop (k + m))) := Lib.hid (by rw [HN.out, if_neg hcond, HGR.out rfl])
            have h5 : ¬ x0 = 5 := fun e => hcond (.inr (.inl e))
            have h8 : ¬ ts.length = 8 := fun e => hcond (.inr (.inr e))
            have h5' : (x0 == 5) = false := by rw [beq_eq_false_iff_ne]; exact h5
            have h8' : ((ts.length : Int) == 8) = false := by rw [beq_eq_false_iff_ne]; omega
            have h8l : ts.length < 8 := by omega
            obtain ⟨pa, pc, hv, _⟩ := ho.rd
            subst hv
            clear hcond HN HZ HDR HGR h5 h8 hc0 hc1 hf0 hf1 hne1 hb2
            go_wp2_with fail
            rw [HX.out]
            refine (next_any _ _ hxs).mono ?_
            rintro e w2 ⟨rfl, hb2⟩
            rw [HV.out]
            have hs2 := hb2.size
            have hb3 : Below (w.heap.size + 1) (w.alloc (.cells #[.int .i64 0, .string ⟨#[]⟩] 43)) ((w2.alloc (.cells #[.int .i64 x0, .string x1] 43)).alloc (.cells #[.int .i64 x0, .string x1] 43)) := ((hbl.trans (hb2.mono (by omega))).alloc (by omega) _).alloc (by simp; omega) _
            have ho2 : OwnT ((w2.alloc (.cells #[.int .i64 x0, .string x1] 43)).alloc (.cells #[.int .i64 x0, .string x1] 43)) (w.heap.size + 1) (.slice pa ts.length pc) ts :=
              (ho.below hb2 (Nat.le_refl _)).below (((Below.refl w2.heap.size w2).alloc (Nat.le_refl _) _).alloc (by simp) _) (Nat.le_refl _)
            go_wp2_with (at_builtin; refine wp_appT rfl _ _ rfl (w.heap.size + 1) _ ts rfl ho2 (x0, x1) (w2.heap.size + 1) rfl ?d1 ?d2 ?d3 ?d4 ?_)
            case d3 => omega
            case d4 => simp; omega
            intro v' w3 ho3 hg3
            have hb4 : Below (w.heap.size + 1) (w.alloc (.cells #[.int .i64 0, .string ⟨#[]⟩] 43)) w3 := hb3.grown hg3 (by simp; omega) (fun g hg => (ho2.lt hg).1)
            clear ho2 hb3 hb2 hg3 ho hbl hm0 h5' h8'
            go_wp2_with fail
            go_roundw
            case rel => exact ⟨k + m, n - 1, ts ++ [(x0, x1)], by omega, by go_num, ho3, HF, by omega, by simp; omega, hb4⟩
            case measure => simp [intOf]; omega
      · have HF : Hid (parseR s.data.toList = ([], t0, false)) := Lib.hid (by
          rw [HP.out]
          refine (parseR_yes r (r.length + 1) (ps := []) (rest := []) (ok := false) (by omega) ?_).trans ?_
          · rw [HL.out, List.eq_nil_of_length_eq_zero (l := s.data.toList.drop k) (by rw [HLn.out]; omega)]
            obtain ⟨m, rfl⟩ : ∃ m, n = m + 1 := ⟨n - 1, by omega⟩
            rw [listR_no rfl]; rfl
          · rfl)
        clear HL
        go_wp2_with fail
        refine bodyPost_ret (v := .tuple #[.slice none 0 0, .agg #[.int .i64 0, .string (bx [])], .bool false]) (by simp [*, results, Tryd.results26, go_sem, bx]) rfl ⟨_, [], t0, false, HF, rfl, OwnT.nil _ _, ?_⟩
        repeat (first | exact Below.refl _ _ | assumption | refine Below.setCell (p := ⟨_, _, _⟩) ?_ (by first | (simp; done) | (simp; omega) | omega) _ | refine below_drewN ?_ _ | refine Below.drew ?_ | refine Below.alloc ?_ (by first | (simp; done) | (simp; omega) | omega) _)
  · have hn1 : ((s[0].toNat : Int) != 40) = true := by rw [bne_iff_ne]; exact hc
    have HF : Hid (parseR s.data.toList = ([], t0, false)) := Lib.hid (parseR_no (by
      cases hh : s.data.toList with
      | nil => rw [hh] at h0g; simp at h0g
      | cons c r =>
        rw [hh] at h0g
        simp only [List.getElem?_cons_zero, Option.some.injEq] at h0g
        simp only [Lib.hasPrefix, List.isPrefixOf, Bool.and_true, beq_eq_false_iff_ne, ne_eq]
        intro e
        exact hc (by rw [← h0g, ← e]; rfl)))
    clear h0 hc h0g
    go_enter Tryd.func26, Tryd.ntmps26
    go_wp2_with fail
    refine bodyPost_ret (v := .tuple #[.slice none 0 0, .agg #[.int .i64 0, .string (bx [])], .bool false]) (by simp [*, results, Tryd.results26, go_sem, bx]) rfl ⟨_, [], t0, false, HF, rfl, OwnT.nil _ _, ?_⟩
    repeat (first | exact Below.refl _ _ | assumption | refine Below.setCell (p := ⟨_, _, _⟩) ?_ (by first | (simp; done) | (simp; omega) | omega) _ | refine below_drewN ?_ _ | refine Below.drew ?_ | refine Below.alloc ?_ (by first | (simp; done) | (simp; omega) | omega) _)

end Go.Proofs.YtibciicpgjgjbaaDoor
