/- Texts that the proof is made of, joined. No condition. -/
import Derived.Test.YtijnimjmimeefaaGreatSC1
import Derived.Deep.RegionHeld3
import Derived.RegionTactic
import Derived.OrdersHeld
import Derived.Test.YtijnimjmimeefaaGreatSC0
import Derived.Shelf.Strings.BuilderX
import Derived.Below
import Derived.Test.YtijnimjmimeefaaGreatSCH
set_option linter.unusedVariables false
set_option linter.unusedSimpArgs false
set_option maxRecDepth 100000
set_option maxHeartbeats 16000000
namespace Go.Proofs.YtijnimjmimeefaaGreat.D
open Go.RowKit
theorem wp_appT {w : World} {ops : Array Oper} {rest : List Oper} {o : Oper} {a : Act} {Q : Exit -> Act -> World -> Prop} (hgd : o.guard = none) (s x : Operand)
  (ho : o.op = .call { callee := .builtin .append, args := #[s, x], argTypes := #[53, 53] })
  (B : Nat) (v : Value) (ts : List Ty) (hs : a.eval s = v) (hown : OwnT w B v ts) (t : Ty) (nb : Nat) (hx : a.eval x = .slice (some ⟨nb, 0, none⟩) 1 1)
  (hc0 : w.cell? ⟨nb, 0, none⟩ = some (.int .i64 t.1)) (hc1 : w.cell? ⟨nb, 1, none⟩ = some (.string t.2))
  (hb : ts.length + 1 <= 1000000) (hbase : B <= w.heap.size)
  (h : ∀ v' w', OwnT w' B v' (ts ++ [t]) -> w.grownBy w' v.ownBlock -> wpList Tryz.prog ops Q rest (a.put o.dst v') w') :
  wpList Tryz.prog ops Q (o :: rest) a w := by
 obtain ⟨i0, hi, hz0, hz1, hz2⟩ := info_parts tyInfo
 refine wpList_append_own w hgd s x 53 ho B 55 i0 (.agg #[.int .i64 0, .string ⟨#[]⟩]) 2 24 Tryz.underlying53 hi hz0 hz1 hz2 rfl (by decide) v ts.length (tyCells ts) hs hown ⟨nb, 0, none⟩ 1 1 [.int .i64 t.1, .string t.2] hx (by simp) ?_ ?_
   (by unfold maxLen; omega) (by omega) hbase ?_
 ·intro j u hj
  match j, hj with
  | 0, hj => simp at hj; subst hj; simpa [add0] using hc0
  | 1, hj => simp at hj; subst hj; simpa [add0] using hc1
 ·intro u hu
  simp at hu
  rcases hu with rfl | rfl <;> rfl
 ·intro v' w' h1 h2 _
  refine h v' w' ?_ h2
  unfold OwnT
  rw [List.length_append, tyCells_app]
  exact h1
theorem pre_yes {s : ByteArray} {c : UInt8} {r : List UInt8} (h : s.data.toList = c :: r) (w : World) :
  Calls Tryz.prog 179 #[.string s, .string ⟨#[c]⟩] w fun e w' => e = .returned (.tuple #[.string (bx r), .bool true]) /\ w = w' := by
 refine (Tryz.strings_CutPrefix s ⟨#[c]⟩ w).mono fun e w' ⟨h1, h2⟩ => ⟨?_, h2.symm⟩
 rw [h1, h]
 have : Lib.hasPrefix (c :: r) [c] = true := by simp [Lib.hasPrefix]
 show Ending.returned (.tuple #[.string ⟨(Lib.trimPrefix (c :: r) [c]).toArray⟩, .bool (Lib.hasPrefix (c :: r) [c])]) = _
 unfold Lib.trimPrefix
 rw [this]; rfl
theorem pre_no {s : ByteArray} {c : UInt8} (h : Lib.hasPrefix s.data.toList [c] = false) (w : World) :
  Calls Tryz.prog 179 #[.string s, .string ⟨#[c]⟩] w fun e w' => e = .returned (.tuple #[.string s, .bool false]) /\ w = w' := by
 refine (Tryz.strings_CutPrefix s ⟨#[c]⟩ w).mono fun e w' ⟨h1, h2⟩ => ⟨?_, h2.symm⟩
 rw [h1]
 show Ending.returned (.tuple #[.string ⟨(Lib.trimPrefix s.data.toList [c]).toArray⟩, .bool (Lib.hasPrefix s.data.toList [c])]) = _
 unfold Lib.trimPrefix
 rw [h]; rfl
theorem OwnT.setCell {w : World} {B : Nat} {v : Value} {ts : List Ty} (h : OwnT w B v ts) {a : Addr} (ha : a.block < B) (u : Value) : OwnT (w.setCell a u) B v ts := ownsRow_setCell_below h ha u
theorem OwnT.alloc {w : World} {B : Nat} {v : Value} {ts : List Ty} (h : OwnT w B v ts) (o : Obj) : OwnT (w.alloc o) B v ts := h.below ((Below.refl w.heap.size w).alloc (Nat.le_refl _) o) (Nat.le_refl _)
theorem OwnT.drew {w : World} {B : Nat} {v : Value} {ts : List Ty} (h : OwnT w B v ts) : OwnT w.drew B v ts := h
theorem OwnT.mono {w : World} {B C : Nat} {v : Value} {ts : List Ty} (h : OwnT w B v ts) (hC : C <= B) : OwnT w C v ts := by
 refine ⟨h.1, ?_⟩
 rcases h.2 with h' | ⟨g, cap, cur, e, hB, r⟩
 ·exact .inl h'
 ·exact .inr ⟨g, cap, cur, e, Nat.le_trans hC hB, r⟩
theorem box_next {w w1 w2 : World} {a b : Value} (h : w.heap.size < w1.heap.size /\ ¬ w.heap.size = w1.heap.size /\ w1.cell? ⟨w.heap.size, 0, none⟩ = some a /\ w1.cell? ⟨w.heap.size, 1, none⟩ = some b /\
   w1.frozen? ⟨w.heap.size, 0, none⟩ = false /\ w1.frozen? ⟨w.heap.size, 1, none⟩ = false /\ Below w.heap.size w w1) (hb : Below w1.heap.size w1 w2) :
  w.heap.size < w2.heap.size /\ ¬ w.heap.size = w2.heap.size /\ w2.cell? ⟨w.heap.size, 0, none⟩ = some a /\ w2.cell? ⟨w.heap.size, 1, none⟩ = some b /\
   w2.frozen? ⟨w.heap.size, 0, none⟩ = false /\ w2.frozen? ⟨w.heap.size, 1, none⟩ = false /\ Below w.heap.size w w2 := by
 obtain ⟨h1, h2, h3, h4, h5, h6, h7⟩ := h
 have hs := hb.size
 exact ⟨by omega, by omega, (hb.cell (p := ⟨w.heap.size, 0, none⟩) h1).trans h3, (hb.cell (p := ⟨w.heap.size, 1, none⟩) h1).trans h4,
  (hb.frozen (p := ⟨w.heap.size, 0, none⟩) h1).trans h5, (hb.frozen (p := ⟨w.heap.size, 1, none⟩) h1).trans h6, h7.trans (hb.mono (by omega))⟩
theorem listR_false : ∀ (n : Nat) (ps : List Ty) (s : List UInt8) {x : List Ty} {rest : List UInt8}, listR n ps s = (x, rest, false) -> x = [] /\ rest = []
 | 0, _, _, _, _, h => by
  simp only [listR, Prod.mk.injEq, and_true] at h
  exact ⟨h.1.symm, h.2.symm⟩
 | n + 1, ps, s, x, rest, h => by
  unfold listR at h
  by_cases hp : Lib.hasPrefix s [41] = true
  ·rw [if_pos hp] at h
   simp at h
  ·rw [if_neg hp] at h
   by_cases hc : (firstR s).2.2 = false ∨ (firstR s).1.1 = 5 ∨ ps.length = 8
   ·rw [if_pos hc] at h
    simp only [Prod.mk.injEq, and_true] at h
    exact ⟨h.1.symm, h.2.symm⟩
   ·rw [if_neg hc] at h
    exact listR_false n _ _ h
def strLen : Value -> Nat
 | .string b => b.size
 | _ => 0
theorem listR_yes {n : Nat} {ps : List Ty} {r : List UInt8} : listR (n + 1) ps (41 :: r) = (ps, r, true) := by
 unfold listR; rw [if_pos (by simp [Lib.hasPrefix])]; rfl
theorem listR_no {n : Nat} {ps : List Ty} {l : List UInt8} (h : Lib.hasPrefix l [41] = false) : listR (n + 1) ps l = if (firstR l).2.2 = false ∨ (firstR l).1.1 = 5 ∨ ps.length = 8 then ([], [], false) else listR n (ps ++ [(firstR l).1]) (firstR l).2.1 := by
 rw [listR, if_neg (by rw [h]; decide)]
theorem list_any (s : ByteArray) (w : World) (hg : Glob w) (hs : s.size <= 4294967280) :
  Calls Tryz.prog 180 #[.string s] w fun e w' => ∃ v ps rest ok, Hid (listR (s.size + 1) [] s.data.toList = (ps, rest, ok)) /\ e = .returned (.tuple #[v, .string (bx rest), .bool ok]) /\ OwnT w' w.heap.size v ps /\ Below w.heap.size w w' := by
 go_enter Tryz.func180, Tryz.ntmps180
 go_wp2_with fail
 go_loopw [0, 5] (fun x p wr => ∃ (n : Nat) (ts : List Ty) (l : List UInt8), x = .string (bx l) /\ OwnT wr w.heap.size p ts /\ Hid (listR (s.size + 1) [] s.data.toList = listR n ts l) /\ l.length < n /\ ts.length <= 8 /\ l.length <= 4294967280 /\ Below w.heap.size w wr) (fun x _ _ => strLen x)
 case atStart => exact ⟨s.size + 1, [], s.data.toList, by rw [bx, Lib.mk_data], OwnT.nil _ _, hid rfl, by rw [<- Lib.size_eq]; omega, by simp, by rw [<- Lib.size_eq]; exact hs, Below.refl _ _⟩
 case round =>
  obtain ⟨n, ts, l, rfl, ho, HL, hn, ht8, hl, hbl⟩ := hrel
  have hsr := hbl.size
  cases hp : Lib.hasPrefix l [41] with
  | true =>
   have hp2 := pre41 41 hp
   obtain ⟨r, rfl⟩ : ∃ r, l = 41 :: r := ⟨_, hp2⟩
   have HF : Hid (listR (s.size + 1) [] s.data.toList = (ts, r, true)) := hid (by
    rw [HL.out]
    obtain ⟨m, rfl⟩ : ∃ m, n = m + 1 := ⟨n - 1, by omega⟩
    exact listR_yes)
   clear hp hp2 HL
   go_wp2_with fail
   refine (pre_yes (s := bx (41 :: r)) (c := 41) (r := r) rfl _).mono ?_
   rintro e w1 ⟨rfl, rfl⟩
   go_wp2_with fail
   go_ret3
   exact ⟨_, _, _, _, HF, rfl, ho, hbl⟩
  | false =>
   obtain ⟨⟨k, c⟩, rest, ok, hR⟩ : ∃ t rest ok, firstR l = (t, rest, ok) := ⟨_, _, _, rfl⟩
   have HV : Hid (ret3 (firstR (bx l).data.toList) = Value.tuple #[.agg #[.int .i64 k, .string c], .string (bx rest), .bool ok]) := hid (by rw [bx_data, hR]; rfl)
   have HN : Hid (listR (s.size + 1) [] s.data.toList = if ok = false ∨ k = 5 ∨ ts.length = 8 then ([], [], false) else listR (n - 1) (ts ++ [(k, c)]) rest) := hid (by
    rw [HL.out]
    obtain ⟨m, rfl⟩ : ∃ m, n = m + 1 := ⟨n - 1, by omega⟩
    rw [listR_no hp, hR]; rfl)
   have HP := hid hp
   have hlr : ok = true -> rest.length < l.length := by
    intro h
    subst h
    exact firstR_len hR
   have HLR := hid hlr
   have hgr := hg.below hbl (Nat.le_refl _)
   clear hp HL hR hlr
   by_cases hcond : ok = false ∨ k = 5 ∨ ts.length = 8
   ·have HF : Hid (listR (s.size + 1) [] s.data.toList = ([], [], false)) := hid (by rw [HN.out, if_pos hcond])
    clear HN
    cases ok with
    | false =>
     clear hcond
     go_wp2_with fail
     refine (pre_no (s := bx l) (c := 41) HP.out _).mono ?_
     rintro e w1 ⟨rfl, rfl⟩
     go_wp2_with fail
     refine (first_any (bx l) _ hgr (by rw [bx_size]; exact hl)).mono ?_
     rintro e w2 ⟨rfl, hb2⟩
     rw [HV.out]
     go_wp2_with fail
     go_ret3
     exact ⟨_, [], [], _, HF, rfl, OwnT.nil _ _, (hbl.trans (hb2.mono (by omega))).alloc (by have := hb2.size; omega) _⟩
    | true =>
     by_cases h5 : k = 5
     ·subst h5
      clear hcond
      go_wp2_with fail
      refine (pre_no (s := bx l) (c := 41) HP.out _).mono ?_
      rintro e w1 ⟨rfl, rfl⟩
      go_wp2_with fail
      refine (first_any (bx l) _ hgr (by rw [bx_size]; exact hl)).mono ?_
      rintro e w2 ⟨rfl, hb2⟩
      rw [HV.out]
      go_wp2_with fail
      go_ret3
      exact ⟨_, [], [], _, HF, rfl, OwnT.nil _ _, (hbl.trans (hb2.mono (by omega))).alloc (by have := hb2.size; omega) _⟩
     ·have h5' : (k == 5) = false := by rw [beq_eq_false_iff_ne]; exact h5
      have h8 : ts.length = 8 := by rcases hcond with h | h | h; (cases h); exact absurd h h5; exact h
      have h8' : ((ts.length : Int) == 8) = true := by rw [beq_iff_eq]; omega
      obtain ⟨pa, pc, hv, _⟩ := ho.rd
      subst hv
      clear hcond h8 h5
      go_wp2_with fail
      refine (pre_no (s := bx l) (c := 41) HP.out _).mono ?_
      rintro e w1 ⟨rfl, rfl⟩
      go_wp2_with fail
      refine (first_any (bx l) _ hgr (by rw [bx_size]; exact hl)).mono ?_
      rintro e w2 ⟨rfl, hb2⟩
      rw [HV.out]
      go_wp2_with fail
      go_ret3
      exact ⟨_, [], [], _, HF, rfl, OwnT.nil _ _, (hbl.trans (hb2.mono (by omega))).alloc (by have := hb2.size; omega) _⟩
   ·have HF : Hid (listR (s.size + 1) [] s.data.toList = listR (n - 1) (ts ++ [(k, c)]) rest) := hid (by rw [HN.out, if_neg hcond])
    have hok : ok = true := by
     cases ok with
     | false => exact absurd (.inl rfl) hcond
     | true => rfl
    subst hok
    have hrl := HLR.out rfl
    have h5 : ¬ k = 5 := fun e => hcond (.inr (.inl e))
    have h8 : ¬ ts.length = 8 := fun e => hcond (.inr (.inr e))
    have h5' : (k == 5) = false := by rw [beq_eq_false_iff_ne]; exact h5
    have h8' : ((ts.length : Int) == 8) = false := by rw [beq_eq_false_iff_ne]; omega
    have h8l : ts.length < 8 := by omega
    obtain ⟨pa, pc, hv, _⟩ := ho.rd
    subst hv
    clear hcond HN HLR h5 h8
    go_wp2_with fail
    refine (pre_no (s := bx l) (c := 41) HP.out _).mono ?_
    rintro e w1 ⟨rfl, rfl⟩
    go_wp2_with fail
    refine (first_any (bx l) _ hgr (by rw [bx_size]; exact hl)).mono ?_
    rintro e w2 ⟨rfl, hb2⟩
    rw [HV.out]
    have hs2 := hb2.size
    have hb3 : Below w.heap.size w ((w2.alloc (.cells #[.int .i64 k, .string c] 55)).alloc (.cells #[.int .i64 k, .string c] 55)) := ((hbl.trans (hb2.mono (by omega))).alloc (by omega) _).alloc (by simp; omega) _
    have ho2 : OwnT ((w2.alloc (.cells #[.int .i64 k, .string c] 55)).alloc (.cells #[.int .i64 k, .string c] 55)) w.heap.size (.slice pa ts.length pc) ts :=
     (ho.below hb2 (Nat.le_refl _)).below (((Below.refl w2.heap.size w2).alloc (Nat.le_refl _) _).alloc (by simp) _) (Nat.le_refl _)
    go_wp2_with (at_builtin; refine wp_appT rfl _ _ rfl w.heap.size _ ts rfl ho2 (k, c) (w2.heap.size + 1) rfl ?d1 ?d2 ?d3 ?d4 ?_)
    case d3 => omega
    case d4 => simp; omega
    intro v' w3 ho3 hg3
    have hb4 : Below w.heap.size w w3 := hb3.grown hg3 (by simp; omega) (fun g hg => (ho2.lt hg).1)
    clear ho2 hb3 hb2 hg3 ho hbl hgr
    go_wp2_with fail
    go_roundw
    case rel => exact ⟨n - 1, ts ++ [(k, c)], rest, rfl, ho3, HF, by omega, by simp; omega, by omega, hb4⟩
    case measure => simp [strLen, bx_size]; omega
theorem parseR_no {s : List UInt8} (h : Lib.hasPrefix s [40] = false) : parseR s = ([], t0, false) := by
 unfold parseR; rw [if_neg (by rw [h]; decide)]
theorem parseR_yes (r : List UInt8) {ps : List Ty} {rest : List UInt8} {ok : Bool} (n : Nat) (hn : r.length < n) (h : listR n [] r = (ps, rest, ok)) : parseR (40 :: r) = if ok && (oneR rest).2 then (ps, (oneR rest).1, true) else ([], t0, false) := by
 unfold parseR
 rw [if_pos (by simp [Lib.hasPrefix])]
 have : listR (40 :: r).length [] ((40 :: r).drop 1) = (ps, rest, ok) := by
  rw [<- h]
  exact listR_fuel _ _ _ _ (by simp) (by simpa using hn)
 rw [this]
theorem parse_any (s : ByteArray) (w : World) (hg : Glob w) (hs : s.size <= 4294967280) :
  Calls Tryz.prog 145 #[.string s] w fun e w' => ∃ v ps t ok, Hid (parseR s.data.toList = (ps, t, ok)) /\ e = .returned (.tuple #[v, tyv t, .bool ok]) /\ OwnT w' w.heap.size v ps /\ Below w.heap.size w w' := by
 cases hp : Lib.hasPrefix s.data.toList [40] with
 | false =>
  have HF := hid (parseR_no hp)
  have HP := hid hp
  clear hp
  go_enter Tryz.func145, Tryz.ntmps145
  go_wp2_with fail
  refine (pre_no (s := s) (c := 40) HP.out _).mono ?_
  rintro e w1 ⟨rfl, rfl⟩
  go_wp2_with fail
  refine bodyPost_ret (v := .tuple #[.slice none 0 0, .agg #[.int .i64 0, .string (bx [])], .bool false]) (by simp [*, results, Tryz.results145, go_sem, bx]) rfl ⟨_, [], t0, false, HF, rfl, OwnT.nil _ _, ?_⟩
  repeat (first | exact Below.refl _ _ | assumption | refine Below.setCell (p := ⟨_, _, _⟩) ?_ (by first | (simp; done) | (simp; omega) | omega) _ | refine below_drewN ?_ _ | refine Below.drew ?_ | refine Below.alloc ?_ (by first | (simp; done) | (simp; omega) | omega) _)
 | true =>
  have hp2 := pre41 40 hp
  obtain ⟨r, hr⟩ : ∃ r, s.data.toList = 40 :: r := ⟨_, hp2⟩
  have HP := hid hr
  have hrl : r.length + 1 = s.size := by rw [Lib.size_eq, hr]; simp
  have hrl2 : r.length <= 4294967280 := by omega
  clear hp hp2 hr hrl
  go_enter Tryz.func145, Tryz.ntmps145
  go_wp2_with fail
  refine (pre_yes HP.out _).mono ?_
  rintro e w1 ⟨rfl, rfl⟩
  go_wp2_with fail
  refine (list_any (bx r) _ (hg.alloc _) (by rw [bx_size]; exact hrl2)).mono ?_
  rintro e w2 ⟨v, ps, rest, ok, HL, rfl, ho, hb1⟩
  have HY := hid (parseR_yes r ((bx r).size + 1) (by rw [bx_size]; omega) HL.out)
  have hrs : rest.length <= 4294967280 := by
   cases ok with
   | false =>
    have := (listR_false _ _ _ HL.out).2
    subst this
    simp
   | true =>
    obtain ⟨qs, _, h2, _⟩ := listR_text _ _ _ _ _ HL.out
    have := congrArg List.length h2
    rw [bx_data] at this
    simp at this
    omega
  have hbx := box2 hb1
  obtain ⟨⟨k, c⟩, ok2, hO⟩ : ∃ t ok2, oneR rest = (t, ok2) := ⟨_, _, rfl⟩
  have HV : Hid (Value.tuple #[tyv (oneR (bx rest).data.toList).1, .bool (oneR (bx rest).data.toList).2] = Value.tuple #[.agg #[.int .i64 k, .string c], .bool ok2]) := hid (by rw [bx_data, hO]; rfl)
  rw [hO] at HY
  clear hO HL
  cases ok with
  | false =>
   have HF : Hid (parseR s.data.toList = ([], t0, false)) := hid (by rw [HP.out]; exact HY.out)
   go_wp2_with fail
   refine (one_any (bx rest) _ (hg.below hbx.2.2.2.2.2.2 (Nat.le_refl _)) (by rw [bx_size]; exact hrs)).mono ?_
   rintro e w3 ⟨rfl, hb3⟩
   rw [HV.out]
   obtain ⟨hlt1, hne1, hc0, hc1, hf0, hf1, hb2⟩ := box_next hbx hb3
   have ho3 := ho.below hb3 (Nat.le_refl _)
   clear hb3 hbx ho hb1
   go_wp2_with fail
   refine bodyPost_ret (v := .tuple #[.slice none 0 0, .agg #[.int .i64 0, .string (bx [])], .bool false]) (by simp [*, results, Tryz.results145, go_sem, bx]) rfl ⟨_, [], t0, false, HF, rfl, OwnT.nil _ _, ?_⟩
   repeat (first | exact Below.refl _ _ | assumption | refine Below.setCell (p := ⟨_, _, _⟩) ?_ (by first | (simp; done) | (simp; omega) | omega) _ | refine below_drewN ?_ _ | refine Below.drew ?_ | refine Below.alloc ?_ (by first | (simp; done) | (simp; omega) | omega) _)
  | true =>
   cases ok2 with
   | false =>
    have HF : Hid (parseR s.data.toList = ([], t0, false)) := hid (by rw [HP.out]; exact HY.out)
    go_wp2_with fail
    refine (one_any (bx rest) _ (hg.below hbx.2.2.2.2.2.2 (Nat.le_refl _)) (by rw [bx_size]; exact hrs)).mono ?_
    rintro e w3 ⟨rfl, hb3⟩
    rw [HV.out]
    obtain ⟨hlt1, hne1, hc0, hc1, hf0, hf1, hb2⟩ := box_next hbx hb3
    have ho3 := ho.below hb3 (Nat.le_refl _)
    clear hb3 hbx ho hb1
    go_wp2_with fail
    refine bodyPost_ret (v := .tuple #[.slice none 0 0, .agg #[.int .i64 0, .string (bx [])], .bool false]) (by simp [*, results, Tryz.results145, go_sem, bx]) rfl ⟨_, [], t0, false, HF, rfl, OwnT.nil _ _, ?_⟩
    repeat (first | exact Below.refl _ _ | assumption | refine Below.setCell (p := ⟨_, _, _⟩) ?_ (by first | (simp; done) | (simp; omega) | omega) _ | refine below_drewN ?_ _ | refine Below.drew ?_ | refine Below.alloc ?_ (by first | (simp; done) | (simp; omega) | omega) _)
   | true =>
    have HF : Hid (parseR s.data.toList = (ps, (k, c), true)) := hid (by rw [HP.out]; exact HY.out)
    go_wp2_with fail
    refine (one_any (bx rest) _ (hg.below hbx.2.2.2.2.2.2 (Nat.le_refl _)) (by rw [bx_size]; exact hrs)).mono ?_
    rintro e w3 ⟨rfl, hb3⟩
    rw [HV.out]
    obtain ⟨hlt1, hne1, hc0, hc1, hf0, hf1, hb2⟩ := box_next hbx hb3
    have ho3 := ho.below hb3 (Nat.le_refl _)
    clear hb3 hbx ho hb1
    go_wp2_with fail
    have ho4 : OwnT w3 w.heap.size v ps := ho3.mono (by simp)
    have ho5 : OwnT w3 (w.heap.size + 1) v ps := ho3.mono (by simp)
    go_region
    all_goals go_wp2_with fail
    all_goals refine bodyPost_ret (v := .tuple #[v, .agg #[.int .i64 k, .string c], .bool true]) ?_ rfl ⟨_, ps, (k, c), true, HF, rfl, ?_, ?_⟩
    all_goals first | (simp [*, results, Tryz.results145, go_sem]; done) | exact ((((ho5.setCell (by simp) _).setCell (by simp) _).alloc _).drew).mono (by omega) | (repeat (first | exact Below.refl _ _ | assumption | refine Below.setCell (p := ⟨_, _, _⟩) ?_ (by first | (simp; done) | (simp; omega) | omega) _ | refine below_drewN ?_ _ | refine Below.drew ?_ | refine Below.alloc ?_ (by first | (simp; done) | (simp; omega) | omega) _))
end Go.Proofs.YtijnimjmimeefaaGreat.D
namespace Go.Proofs.YtijnimjmimeefaaGreat.O
open Go.Proofs.YtijnimjmimeefaaGreat.D
open Go.RowKit
def usesI (o : Int) : Int :=
 if o = 1 then 1 else if o = 2 then 2 else if o = 4 then 3 else if o = 5 then 3 else if o = 19 then 3 else if o = 20 then 3 else
 if o = 26 then 4 else if o = 27 then 4 else if o = 28 then 4 else if o = 29 then 4 else
 if o = 34 then 5 else if o = 35 then 5 else if o = 36 then 5 else if o = 37 then 5 else
 if o = 25 then 6 else if o = 30 then 6 else if o = 31 then 6 else 0
def knownB (o : Int) : Bool := decide (0 < o /\ o < 44)
theorem ret_i64 {a b : Int} (h : a = b) : Ending.returned (.int .i64 a) = .returned (.int .i64 b) := by rw [h]
theorem knownop_any (o : Int) (w : World) :
  Calls Tryz.prog 206 #[.int .i64 o] w fun e w' => e = .returned (.bool (knownB o)) /\ w = w' := by
 go_enter Tryz.func206, Tryz.ntmps206
 go_wp2
 all_goals go_ret
 all_goals refine ⟨ret_bool ?_, rfl⟩
 all_goals (rw [Bool.eq_iff_iff]; simp [knownB]; try omega)
theorem uses_any (o : Int) (w : World) :
  Calls Tryz.prog 182 #[.int .i64 o] w fun e w' => e = .returned (.int .i64 (usesI o)) /\ w = w' := by
 go_enter Tryz.func182, Tryz.ntmps182
 go_wp2
 all_goals go_ret
 all_goals refine ⟨ret_i64 ?_, rfl⟩
 all_goals simp_all [usesI]
end Go.Proofs.YtijnimjmimeefaaGreat.O
namespace Go.Proofs.YtijnimjmimeefaaGreat.O
open Go.Proofs.YtijnimjmimeefaaGreat.D
open Go.RowKit
theorem str_ext {a b : ByteArray} (h : a.toList = b.toList) : a = b := by
 rw [Lib.toList_data, Lib.toList_data] at h
 obtain ⟨⟨x⟩⟩ := a
 obtain ⟨⟨y⟩⟩ := b
 simp only at h
 rw [h]
abbrev Ins : Type := Int × Int × Int × ByteArray × ByteArray × ByteArray × ByteArray
def insV (x : Ins) : Value := .agg #[.int .i64 x.1, .int .i32 x.2.1, .int .i64 x.2.2.1, .string x.2.2.2.1, .string x.2.2.2.2.1, .string x.2.2.2.2.2.1, .string x.2.2.2.2.2.2]
def usedI (x : Ins) : Ins :=
 (x.1, (if usesI x.1 = 1 then x.2.1 else 0), (if usesI x.1 = 3 then x.2.2.1 else 0), (if usesI x.1 = 2 then x.2.2.2.1 else ⟨#[]⟩),
  (if usesI x.1 = 4 ∨ usesI x.1 = 5 ∨ usesI x.1 = 6 then x.2.2.2.2.1 else ⟨#[]⟩), (if usesI x.1 = 4 ∨ usesI x.1 = 5 then x.2.2.2.2.2.1 else ⟨#[]⟩), (if usesI x.1 = 5 then x.2.2.2.2.2.2 else ⟨#[]⟩))
theorem same_any (o n k o' n' k' : Int) (s c m d s' c' m' d' : ByteArray) (w : World) :
  Calls Tryz.prog 133 #[insV (o, n, k, s, c, m, d), insV (o', n', k', s', c', m', d')] w fun e w' => e = .returned (.bool (decide ((o, n, k, s, c, m, d) = (o', n', k', s', c', m', d')))) /\ Below w.heap.size w w' := by
 unfold insV
 go_enter Tryz.func133, Tryz.ntmps133
 go_wp2
 all_goals go_ret
 all_goals refine ⟨ret_bool ?_, ((Below.refl _ _).alloc (Nat.le_refl _) _).alloc (by simp) _⟩
 ·rename_i h1 h2 h3 h4 h5 h6 h7
  subst h1; subst h2; subst h3
  rw [str_ext h4, str_ext h5, str_ext h6, str_ext h7]
  simp
 all_goals (symm; rw [decide_eq_false_iff_not]; intro e; simp only [Prod.mk.injEq] at e; obtain ⟨e1, e2, e3, e4, e5, e6, e7⟩ := e; simp_all)
theorem insV_mk (o n k : Int) (s c m d : ByteArray) : insV (o, n, k, s, c, m, d) = .agg #[.int .i64 o, .int .i32 n, .int .i64 k, .string s, .string c, .string m, .string d] := rfl
theorem used_any (o n k : Int) (s c m d : ByteArray) (w : World) :
  Calls Tryz.prog 207 #[insV (o, n, k, s, c, m, d)] w fun e w' => e = .returned (insV (usedI (o, n, k, s, c, m, d))) /\ Below w.heap.size w w' := by
 rw [insV_mk]
 go_enter Tryz.func207, Tryz.ntmps207
 go_wp2_with (go_at_call 182; refine (uses_any _ _).mono ?_; rintro e w' ⟨rfl, rfl⟩)
 all_goals refine bodyPost_ret (v := insV (usedI (o, n, k, s, c, m, d))) ?_ rfl ⟨rfl, ?_⟩
 all_goals simp_all [results, Tryz.results207, go_sem, insV, usedI]
 all_goals exact ((Below.refl _ _).alloc (Nat.le_refl _) _).alloc (by simp) _
end Go.Proofs.YtijnimjmimeefaaGreat.O
namespace Go.Proofs.YtijnimjmimeefaaGreat.O
open Go.Proofs.YtijnimjmimeefaaGreat.D
open Go.RowKit
def parsesB (s : ByteArray) : Bool := (parseR s.data.toList).2.2
def withinB (x : Ins) : Bool :=
 if usesI x.1 = 2 then decide (x.2.2.2.1.size <= 1000) else if usesI x.1 = 3 then decide (0 <= x.2.2.1 /\ x.2.2.1 <= 2000) else
 if usesI x.1 = 4 then nameB x.2.2.2.2.1 && nameB x.2.2.2.2.2.1 else if usesI x.1 = 5 then nameB x.2.2.2.2.1 && nameB x.2.2.2.2.2.1 && parsesB x.2.2.2.2.2.2 else
 if usesI x.1 = 6 then nameB x.2.2.2.2.1 else true
def rightI (x : Ins) : Bool := knownB x.1 && decide (x = usedI x) && withinB x
theorem parses_any (s : ByteArray) (w : World) (hg : Glob w) (hs : s.size <= 4294967280) :
  Calls Tryz.prog 214 #[.string s] w fun e w' => e = .returned (.bool (parsesB s)) /\ Below w.heap.size w w' := by
 go_enter Tryz.func214, Tryz.ntmps214
 go_wp2_with fail
 refine (parse_any s w hg hs).mono ?_
 rintro e w1 ⟨v, ps, ⟨t0, t1⟩, ok, HP, rfl, ho, hb⟩
 have HV : Hid (parsesB s = ok) := hid (by unfold parsesB; rw [HP.out])
 have hs1 := hb.size
 rw [show tyv (t0, t1) = .agg #[.int .i64 t0, .string t1] from rfl]
 obtain ⟨pa, pc, hv, _⟩ := ho.rd
 subst hv
 clear ho HP
 go_wp2_with fail
 go_ret
 refine ⟨ret_bool HV.out.symm, ?_⟩
 repeat (first | exact Below.refl _ _ | exact hb | refine Below.setCell (p := ⟨_, _, _⟩) ?_ (by first | (simp; done) | (simp; omega) | omega) _ | refine below_drewN ?_ _ | refine Below.drew ?_ | refine Below.alloc ?_ (by first | (simp; done) | (simp; omega) | omega) _)
theorem within_any (o n k : Int) (s c m d : ByteArray) (w : World) (hg : Glob w) (hc : c.size <= maxLen) (hm : m.size <= maxLen) (hd : d.size <= 4294967280) :
  Calls Tryz.prog 208 #[insV (o, n, k, s, c, m, d)] w fun e w' => e = .returned (.bool (withinB (o, n, k, s, c, m, d))) /\ Below w.heap.size w w' := by
 rw [insV_mk]
 have hg1 := hg.alloc (.cells #[.int .i64 o, .int .i32 n, .int .i64 k, .string s, .string c, .string m, .string d] 61)
 have hb0 : Below w.heap.size w (w.alloc (.cells #[.int .i64 o, .int .i32 n, .int .i64 k, .string s, .string c, .string m, .string d] 61)) := (Below.refl _ _).alloc (Nat.le_refl _) _
 go_enter Tryz.func208, Tryz.ntmps208
 go_wp2_with (first
  | (go_at_call 182; refine (uses_any _ _).mono ?_; rintro e w' ⟨rfl, rfl⟩)
  | (go_at_call 154; refine (name_any _ _ (by assumption)).mono ?_; rintro e w' ⟨rfl, rfl⟩)
  | (go_at_call 214; refine (parses_any _ _ hg1 hd).mono ?_; rintro e w' ⟨rfl, hb1⟩))
 all_goals go_ret
 all_goals refine ⟨ret_bool ?_, ?_⟩
 all_goals first | exact hb0 | exact hb0.trans (hb1.mono hb0.size) | skip
 all_goals (rw [Bool.eq_iff_iff]; simp_all [withinB]; try omega)
theorem ibox_next {w w' : World} {X : Nat} {o n k : Int} {s c m d : ByteArray} (h : w.cell? ⟨X, 0, none⟩ = some (.int .i64 o) /\ w.cell? ⟨X, 1, none⟩ = some (.int .i32 n) /\ w.cell? ⟨X, 2, none⟩ = some (.int .i64 k) /\ w.cell? ⟨X, 3, none⟩ = some (.string s) /\ w.cell? ⟨X, 4, none⟩ = some (.string c) /\ w.cell? ⟨X, 5, none⟩ = some (.string m) /\ w.cell? ⟨X, 6, none⟩ = some (.string d)) (hX : X < w.heap.size) (hb : Below w.heap.size w w') :
  w'.cell? ⟨X, 0, none⟩ = some (.int .i64 o) /\ w'.cell? ⟨X, 1, none⟩ = some (.int .i32 n) /\ w'.cell? ⟨X, 2, none⟩ = some (.int .i64 k) /\ w'.cell? ⟨X, 3, none⟩ = some (.string s) /\ w'.cell? ⟨X, 4, none⟩ = some (.string c) /\ w'.cell? ⟨X, 5, none⟩ = some (.string m) /\ w'.cell? ⟨X, 6, none⟩ = some (.string d) := by
 obtain ⟨h0, h1, h2, h3, h4, h5, h6⟩ := h
 exact ⟨(hb.cell (p := ⟨X, 0, none⟩) hX).trans h0, (hb.cell (p := ⟨X, 1, none⟩) hX).trans h1, (hb.cell (p := ⟨X, 2, none⟩) hX).trans h2, (hb.cell (p := ⟨X, 3, none⟩) hX).trans h3, (hb.cell (p := ⟨X, 4, none⟩) hX).trans h4, (hb.cell (p := ⟨X, 5, none⟩) hX).trans h5, (hb.cell (p := ⟨X, 6, none⟩) hX).trans h6⟩
theorem ibox_new (w : World) (o n k : Int) (s c m d : ByteArray) (w' : World) (hw : w' = (w.alloc (.cells #[.int .i64 o, .int .i32 n, .int .i64 k, .string s, .string c, .string m, .string d] 61)).drew) :
  w'.cell? ⟨w.heap.size, 0, none⟩ = some (.int .i64 o) /\ w'.cell? ⟨w.heap.size, 1, none⟩ = some (.int .i32 n) /\ w'.cell? ⟨w.heap.size, 2, none⟩ = some (.int .i64 k) /\ w'.cell? ⟨w.heap.size, 3, none⟩ = some (.string s) /\ w'.cell? ⟨w.heap.size, 4, none⟩ = some (.string c) /\ w'.cell? ⟨w.heap.size, 5, none⟩ = some (.string m) /\ w'.cell? ⟨w.heap.size, 6, none⟩ = some (.string d) := by
 subst hw
 refine ⟨?_, ?_, ?_, ?_, ?_, ?_, ?_⟩ <;> simp
theorem right_any (o n k : Int) (s c m d : ByteArray) (w : World) (hg : Glob w) (hc : c.size <= maxLen) (hm : m.size <= maxLen) (hd : d.size <= 4294967280) :
  Calls Tryz.prog 193 #[insV (o, n, k, s, c, m, d)] w fun e w' => e = .returned (.bool (rightI (o, n, k, s, c, m, d))) /\ Below w.heap.size w w' := by
 rw [insV_mk]
 obtain ⟨⟨o', n', k', s', c', m', d'⟩, HU⟩ : ∃ y, usedI (o, n, k, s, c, m, d) = y := ⟨_, rfl⟩
 obtain rfl : o = o' := congrArg Prod.fst HU
 have HUS : Hid (∀ w : World, Calls Tryz.prog 207 #[.agg #[.int .i64 o, .int .i32 n, .int .i64 k, .string s, .string c, .string m, .string d]] w fun e w' => e = .returned (.agg #[.int .i64 o, .int .i32 n', .int .i64 k', .string s', .string c', .string m', .string d']) /\ Below w.heap.size w w') := hid (fun w => by
  have := used_any o n k s c m d w
  rw [HU, insV_mk, insV_mk] at this
  exact this)
 have HWI : Hid (∀ w : World, Glob w -> Calls Tryz.prog 208 #[.agg #[.int .i64 o, .int .i32 n, .int .i64 k, .string s, .string c, .string m, .string d]] w fun e w' => e = .returned (.bool (withinB (o, n, k, s, c, m, d))) /\ Below w.heap.size w w') := hid (fun w hg => by
  have := within_any o n k s c m d w hg hc hm hd
  rw [insV_mk] at this
  exact this)
 have HR : Hid (rightI (o, n, k, s, c, m, d) = (knownB o && decide ((o, n, k, s, c, m, d) = (o, n', k', s', c', m', d')) && withinB (o, n, k, s, c, m, d))) := hid (by unfold rightI; rw [HU])
 have hb0 : Below w.heap.size w (w.alloc (.cells #[.int .i64 o, .int .i32 n, .int .i64 k, .string s, .string c, .string m, .string d] 61)).drew := ((Below.refl _ _).alloc (Nat.le_refl _) _).drew
 have hx0 := ibox_new w o n k s c m d _ rfl
 have hX0 : w.heap.size < (w.alloc (.cells #[.int .i64 o, .int .i32 n, .int .i64 k, .string s, .string c, .string m, .string d] 61)).drew.heap.size := by simp
 clear HU
 cases hk : knownB o with
 | false =>
  have HF : Hid (rightI (o, n, k, s, c, m, d) = false) := hid (by rw [HR.out, hk]; rfl)
  clear HR
  go_enter Tryz.func193, Tryz.ntmps193
  go_wp2_with fail
  refine wp_region_held_drew (S := (fun w' => w'.cell? ⟨w.heap.size, 0, none⟩ = some (.int .i64 o) /\ w'.cell? ⟨w.heap.size, 1, none⟩ = some (.int .i32 n) /\ w'.cell? ⟨w.heap.size, 2, none⟩ = some (.int .i64 k) /\ w'.cell? ⟨w.heap.size, 3, none⟩ = some (.string s) /\ w'.cell? ⟨w.heap.size, 4, none⟩ = some (.string c) /\ w'.cell? ⟨w.heap.size, 5, none⟩ = some (.string m) /\ w'.cell? ⟨w.heap.size, 6, none⟩ = some (.string d))) (by kernel_rfl) hx0 (fun hh => ?_)
  refine wpAnyH_take (i := 0) (oi := _) (v := ?_) (by rfl) (by kernel_rfl) (by kernel_rfl) (by kernel_rfl) (by intro _ _ _ h; exact h) (Or.inl ⟨by rfl, fun W hSw => ?_⟩) hh ?_
  rotate_left 1
  ·(clear hSw; first | (go_simp; done) | (go_simp; with_reducible rfl))
  try go_frame
  refine tkB 1 _ hh ?_
  try go_frame
  refine rdH [2] ?_
  refine rcH (fun K hK => ?_) AllReadyH.nil
  clear hh
  go_simp
  refine (knownop_any _ _).mono ?_
  rintro e w' ⟨rfl, rfl⟩
  refine hK.out _ _ hx0 (fun hh => ?_)
  clear hK K
  try go_frame
  refine tkA 3 _ hh ?_
  try go_frame
  refine wpAnyH_take (i := 4) (oi := _) (v := undef) (by simp only [List.getElem?_toArray, List.getElem?_cons_succ, List.getElem?_cons_zero]; rfl) (by kernel_rfl) (by kernel_rfl) (by kernel_rfl) (by intro _ _ _ h; exact h) (Or.inr ⟨by rfl, rfl⟩) hh ?_
  try go_frame
  refine wpAnyH_take (i := 5) (oi := _) (v := undef) (by simp only [List.getElem?_toArray, List.getElem?_cons_succ, List.getElem?_cons_zero]; rfl) (by kernel_rfl) (by kernel_rfl) (by kernel_rfl) (by intro _ _ _ h; exact h) (Or.inr ⟨by rfl, rfl⟩) hh ?_
  try go_frame
  refine wpAnyH_take (i := 6) (oi := _) (v := undef) (by simp only [List.getElem?_toArray, List.getElem?_cons_succ, List.getElem?_cons_zero]; rfl) (by kernel_rfl) (by kernel_rfl) (by kernel_rfl) (by intro _ _ _ h; exact h) (Or.inr ⟨by rfl, rfl⟩) hh ?_
  try go_frame
  refine wpAnyH_take (i := 7) (oi := _) (v := undef) (by simp only [List.getElem?_toArray, List.getElem?_cons_succ, List.getElem?_cons_zero]; rfl) (by kernel_rfl) (by kernel_rfl) (by kernel_rfl) (by intro _ _ _ h; exact h) (Or.inr ⟨by rfl, rfl⟩) hh ?_
  try go_frame
  refine tkA 8 _ hh ?_
  try go_frame
  refine tkA 9 _ hh ?_
  try go_frame
  refine wpAnyH_take (i := 10) (oi := _) (v := undef) (by simp only [List.getElem?_toArray, List.getElem?_cons_succ, List.getElem?_cons_zero]; rfl) (by kernel_rfl) (by kernel_rfl) (by kernel_rfl) (by intro _ _ _ h; exact h) (Or.inr ⟨by rfl, rfl⟩) hh ?_
  try go_frame
  refine wpAnyH_take (i := 11) (oi := _) (v := undef) (by simp only [List.getElem?_toArray, List.getElem?_cons_succ, List.getElem?_cons_zero]; rfl) (by kernel_rfl) (by kernel_rfl) (by kernel_rfl) (by intro _ _ _ h; exact h) (Or.inr ⟨by rfl, rfl⟩) hh ?_
  try go_frame
  refine tkA 12 _ hh ?_
  try go_frame
  refine tkA 13 _ hh ?_
  try go_frame
  refine wpAnyH_done (by kernel_rfl) ?_ _
  go_wp2_with fail
  go_ret
  exact ⟨ret_bool HF.out.symm, by first | exact hB2 | exact hB1 | exact hb0⟩
 | true =>
  by_cases en : n = n'
  ·subst en
   by_cases ek : k = k'
   ·subst ek
    by_cases es : s = s'
    ·subst es
     by_cases ec : c = c'
     ·subst ec
      by_cases em : m = m'
      ·subst em
       by_cases ed : d = d'
       ·subst ed
        have HF : Hid (rightI (o, n, k, s, c, m, d) = withinB (o, n, k, s, c, m, d)) := hid (by rw [HR.out, hk]; simp)
        clear HR
        go_enter Tryz.func193, Tryz.ntmps193
        go_wp2_with fail
        refine wp_region_held_drew (S := (fun w' => w'.cell? ⟨w.heap.size, 0, none⟩ = some (.int .i64 o) /\ w'.cell? ⟨w.heap.size, 1, none⟩ = some (.int .i32 n) /\ w'.cell? ⟨w.heap.size, 2, none⟩ = some (.int .i64 k) /\ w'.cell? ⟨w.heap.size, 3, none⟩ = some (.string s) /\ w'.cell? ⟨w.heap.size, 4, none⟩ = some (.string c) /\ w'.cell? ⟨w.heap.size, 5, none⟩ = some (.string m) /\ w'.cell? ⟨w.heap.size, 6, none⟩ = some (.string d))) (by kernel_rfl) hx0 (fun hh => ?_)
        refine wpAnyH_take (i := 0) (oi := _) (v := ?_) (by rfl) (by kernel_rfl) (by kernel_rfl) (by kernel_rfl) (by intro _ _ _ h; exact h) (Or.inl ⟨by rfl, fun W hSw => ?_⟩) hh ?_
        rotate_left 1
        ·(clear hSw; first | (go_simp; done) | (go_simp; with_reducible rfl))
        try go_frame
        refine tkB 1 _ hh ?_
        try go_frame
        refine rdH [2] ?_
        refine rcH (fun K hK => ?_) AllReadyH.nil
        clear hh
        go_simp
        refine (knownop_any _ _).mono ?_
        rintro e w' ⟨rfl, rfl⟩
        refine hK.out _ _ hx0 (fun hh => ?_)
        clear hK K
        try go_frame
        refine tkA 3 _ hh ?_
        try go_frame
        refine tkB 4 _ hh ?_
        try go_frame
        refine tkB 5 _ hh ?_
        try go_frame
        refine rdH [6] ?_
        refine rcH (fun K hK => ?_) AllReadyH.nil
        clear hh
        go_simp
        refine (HUS.out _).mono ?_
        rintro e w1 ⟨rfl, hb1⟩
        have hB1 : Below w.heap.size w w1 := hb0.trans (hb1.mono hb0.size)
        have hx1 := ibox_next hx0 hX0 hb1
        have hX1 := Nat.lt_of_lt_of_le hX0 hb1.size
        refine hK.out _ _ hx1 (fun hh => ?_)
        clear hK K
        try go_frame
        refine tkA 7 _ hh ?_
        try go_frame
        refine tkA 8 _ hh ?_
        try go_frame
        refine tkA 9 _ hh ?_
        try go_frame
        refine tkB 10 _ hh ?_
        try go_frame
        refine rdH [11] ?_
        refine rcH (fun K hK => ?_) AllReadyH.nil
        clear hh
        go_simp
        refine (HWI.out _ (hg.below hB1 (Nat.le_refl _))).mono ?_
        rintro e w2 ⟨rfl, hb2⟩
        have hB2 : Below w.heap.size w w2 := hB1.trans (hb2.mono hB1.size)
        have hx2 := ibox_next hx1 hX1 hb2
        refine hK.out _ _ hx2 (fun hh => ?_)
        clear hK K
        try go_frame
        refine tkA 12 _ hh ?_
        try go_frame
        refine tkA 13 _ hh ?_
        try go_frame
        refine wpAnyH_done (by kernel_rfl) ?_ _
        go_wp2_with fail
        go_ret
        exact ⟨ret_bool HF.out.symm, by first | exact hB2 | exact hB1 | exact hb0⟩
       ·have f1 : ¬ d.toList = d'.toList := fun h => ed (str_ext h)
        have f2 : ¬ d'.toList = d.toList := fun h => ed (str_ext h.symm)
        have f3 : (d.toList == d'.toList) = false := by rw [beq_eq_false_iff_ne]; exact f1
        have f4 : (d'.toList == d.toList) = false := by rw [beq_eq_false_iff_ne]; exact f2
        have HF : Hid (rightI (o, n, k, s, c, m, d) = false) := hid (by rw [HR.out, hk, decide_eq_false (by intro e; simp only [Prod.mk.injEq] at e; exact ed (by simp_all))]; rfl)
        clear HR
        go_enter Tryz.func193, Tryz.ntmps193
        go_wp2_with fail
        refine wp_region_held_drew (S := (fun w' => w'.cell? ⟨w.heap.size, 0, none⟩ = some (.int .i64 o) /\ w'.cell? ⟨w.heap.size, 1, none⟩ = some (.int .i32 n) /\ w'.cell? ⟨w.heap.size, 2, none⟩ = some (.int .i64 k) /\ w'.cell? ⟨w.heap.size, 3, none⟩ = some (.string s) /\ w'.cell? ⟨w.heap.size, 4, none⟩ = some (.string c) /\ w'.cell? ⟨w.heap.size, 5, none⟩ = some (.string m) /\ w'.cell? ⟨w.heap.size, 6, none⟩ = some (.string d))) (by kernel_rfl) hx0 (fun hh => ?_)
        refine wpAnyH_take (i := 0) (oi := _) (v := ?_) (by rfl) (by kernel_rfl) (by kernel_rfl) (by kernel_rfl) (by intro _ _ _ h; exact h) (Or.inl ⟨by rfl, fun W hSw => ?_⟩) hh ?_
        rotate_left 1
        ·(clear hSw; first | (go_simp; done) | (go_simp; with_reducible rfl))
        try go_frame
        refine tkB 1 _ hh ?_
        try go_frame
        refine rdH [2] ?_
        refine rcH (fun K hK => ?_) AllReadyH.nil
        clear hh
        go_simp
        refine (knownop_any _ _).mono ?_
        rintro e w' ⟨rfl, rfl⟩
        refine hK.out _ _ hx0 (fun hh => ?_)
        clear hK K
        try go_frame
        refine tkA 3 _ hh ?_
        try go_frame
        refine tkB 4 _ hh ?_
        try go_frame
        refine tkB 5 _ hh ?_
        try go_frame
        refine rdH [6] ?_
        refine rcH (fun K hK => ?_) AllReadyH.nil
        clear hh
        go_simp
        refine (HUS.out _).mono ?_
        rintro e w1 ⟨rfl, hb1⟩
        have hB1 : Below w.heap.size w w1 := hb0.trans (hb1.mono hb0.size)
        have hx1 := ibox_next hx0 hX0 hb1
        have hX1 := Nat.lt_of_lt_of_le hX0 hb1.size
        refine hK.out _ _ hx1 (fun hh => ?_)
        clear hK K
        try go_frame
        refine tkA 7 _ hh ?_
        try go_frame
        refine tkA 8 _ hh ?_
        try go_frame
        refine tkA 9 _ hh ?_
        try go_frame
        refine wpAnyH_take (i := 10) (oi := _) (v := undef) (by simp only [List.getElem?_toArray, List.getElem?_cons_succ, List.getElem?_cons_zero]; rfl) (by kernel_rfl) (by kernel_rfl) (by kernel_rfl) (by intro _ _ _ h; exact h) (Or.inr ⟨by rfl, rfl⟩) hh ?_
        try go_frame
        refine wpAnyH_take (i := 11) (oi := _) (v := undef) (by simp only [List.getElem?_toArray, List.getElem?_cons_succ, List.getElem?_cons_zero]; rfl) (by kernel_rfl) (by kernel_rfl) (by kernel_rfl) (by intro _ _ _ h; exact h) (Or.inr ⟨by rfl, rfl⟩) hh ?_
        try go_frame
        refine tkA 12 _ hh ?_
        try go_frame
        refine tkA 13 _ hh ?_
        try go_frame
        refine wpAnyH_done (by kernel_rfl) ?_ _
        go_wp2_with fail
        go_ret
        exact ⟨ret_bool HF.out.symm, by first | exact hB2 | exact hB1 | exact hb0⟩
      ·have f1 : ¬ m.toList = m'.toList := fun h => em (str_ext h)
       have f2 : ¬ m'.toList = m.toList := fun h => em (str_ext h.symm)
       have f3 : (m.toList == m'.toList) = false := by rw [beq_eq_false_iff_ne]; exact f1
       have f4 : (m'.toList == m.toList) = false := by rw [beq_eq_false_iff_ne]; exact f2
       have HF : Hid (rightI (o, n, k, s, c, m, d) = false) := hid (by rw [HR.out, hk, decide_eq_false (by intro e; simp only [Prod.mk.injEq] at e; exact em (by simp_all))]; rfl)
       clear HR
       go_enter Tryz.func193, Tryz.ntmps193
       go_wp2_with fail
       refine wp_region_held_drew (S := (fun w' => w'.cell? ⟨w.heap.size, 0, none⟩ = some (.int .i64 o) /\ w'.cell? ⟨w.heap.size, 1, none⟩ = some (.int .i32 n) /\ w'.cell? ⟨w.heap.size, 2, none⟩ = some (.int .i64 k) /\ w'.cell? ⟨w.heap.size, 3, none⟩ = some (.string s) /\ w'.cell? ⟨w.heap.size, 4, none⟩ = some (.string c) /\ w'.cell? ⟨w.heap.size, 5, none⟩ = some (.string m) /\ w'.cell? ⟨w.heap.size, 6, none⟩ = some (.string d))) (by kernel_rfl) hx0 (fun hh => ?_)
       refine wpAnyH_take (i := 0) (oi := _) (v := ?_) (by rfl) (by kernel_rfl) (by kernel_rfl) (by kernel_rfl) (by intro _ _ _ h; exact h) (Or.inl ⟨by rfl, fun W hSw => ?_⟩) hh ?_
       rotate_left 1
       ·(clear hSw; first | (go_simp; done) | (go_simp; with_reducible rfl))
       try go_frame
       refine tkB 1 _ hh ?_
       try go_frame
       refine rdH [2] ?_
       refine rcH (fun K hK => ?_) AllReadyH.nil
       clear hh
       go_simp
       refine (knownop_any _ _).mono ?_
       rintro e w' ⟨rfl, rfl⟩
       refine hK.out _ _ hx0 (fun hh => ?_)
       clear hK K
       try go_frame
       refine tkA 3 _ hh ?_
       try go_frame
       refine tkB 4 _ hh ?_
       try go_frame
       refine tkB 5 _ hh ?_
       try go_frame
       refine rdH [6] ?_
       refine rcH (fun K hK => ?_) AllReadyH.nil
       clear hh
       go_simp
       refine (HUS.out _).mono ?_
       rintro e w1 ⟨rfl, hb1⟩
       have hB1 : Below w.heap.size w w1 := hb0.trans (hb1.mono hb0.size)
       have hx1 := ibox_next hx0 hX0 hb1
       have hX1 := Nat.lt_of_lt_of_le hX0 hb1.size
       refine hK.out _ _ hx1 (fun hh => ?_)
       clear hK K
       try go_frame
       refine tkA 7 _ hh ?_
       try go_frame
       refine tkA 8 _ hh ?_
       try go_frame
       refine tkA 9 _ hh ?_
       try go_frame
       refine wpAnyH_take (i := 10) (oi := _) (v := undef) (by simp only [List.getElem?_toArray, List.getElem?_cons_succ, List.getElem?_cons_zero]; rfl) (by kernel_rfl) (by kernel_rfl) (by kernel_rfl) (by intro _ _ _ h; exact h) (Or.inr ⟨by rfl, rfl⟩) hh ?_
       try go_frame
       refine wpAnyH_take (i := 11) (oi := _) (v := undef) (by simp only [List.getElem?_toArray, List.getElem?_cons_succ, List.getElem?_cons_zero]; rfl) (by kernel_rfl) (by kernel_rfl) (by kernel_rfl) (by intro _ _ _ h; exact h) (Or.inr ⟨by rfl, rfl⟩) hh ?_
       try go_frame
       refine tkA 12 _ hh ?_
       try go_frame
       refine tkA 13 _ hh ?_
       try go_frame
       refine wpAnyH_done (by kernel_rfl) ?_ _
       go_wp2_with fail
       go_ret
       exact ⟨ret_bool HF.out.symm, by first | exact hB2 | exact hB1 | exact hb0⟩
     ·have f1 : ¬ c.toList = c'.toList := fun h => ec (str_ext h)
      have f2 : ¬ c'.toList = c.toList := fun h => ec (str_ext h.symm)
      have f3 : (c.toList == c'.toList) = false := by rw [beq_eq_false_iff_ne]; exact f1
      have f4 : (c'.toList == c.toList) = false := by rw [beq_eq_false_iff_ne]; exact f2
      have HF : Hid (rightI (o, n, k, s, c, m, d) = false) := hid (by rw [HR.out, hk, decide_eq_false (by intro e; simp only [Prod.mk.injEq] at e; exact ec (by simp_all))]; rfl)
      clear HR
      go_enter Tryz.func193, Tryz.ntmps193
      go_wp2_with fail
      refine wp_region_held_drew (S := (fun w' => w'.cell? ⟨w.heap.size, 0, none⟩ = some (.int .i64 o) /\ w'.cell? ⟨w.heap.size, 1, none⟩ = some (.int .i32 n) /\ w'.cell? ⟨w.heap.size, 2, none⟩ = some (.int .i64 k) /\ w'.cell? ⟨w.heap.size, 3, none⟩ = some (.string s) /\ w'.cell? ⟨w.heap.size, 4, none⟩ = some (.string c) /\ w'.cell? ⟨w.heap.size, 5, none⟩ = some (.string m) /\ w'.cell? ⟨w.heap.size, 6, none⟩ = some (.string d))) (by kernel_rfl) hx0 (fun hh => ?_)
      refine wpAnyH_take (i := 0) (oi := _) (v := ?_) (by rfl) (by kernel_rfl) (by kernel_rfl) (by kernel_rfl) (by intro _ _ _ h; exact h) (Or.inl ⟨by rfl, fun W hSw => ?_⟩) hh ?_
      rotate_left 1
      ·(clear hSw; first | (go_simp; done) | (go_simp; with_reducible rfl))
      try go_frame
      refine tkB 1 _ hh ?_
      try go_frame
      refine rdH [2] ?_
      refine rcH (fun K hK => ?_) AllReadyH.nil
      clear hh
      go_simp
      refine (knownop_any _ _).mono ?_
      rintro e w' ⟨rfl, rfl⟩
      refine hK.out _ _ hx0 (fun hh => ?_)
      clear hK K
      try go_frame
      refine tkA 3 _ hh ?_
      try go_frame
      refine tkB 4 _ hh ?_
      try go_frame
      refine tkB 5 _ hh ?_
      try go_frame
      refine rdH [6] ?_
      refine rcH (fun K hK => ?_) AllReadyH.nil
      clear hh
      go_simp
      refine (HUS.out _).mono ?_
      rintro e w1 ⟨rfl, hb1⟩
      have hB1 : Below w.heap.size w w1 := hb0.trans (hb1.mono hb0.size)
      have hx1 := ibox_next hx0 hX0 hb1
      have hX1 := Nat.lt_of_lt_of_le hX0 hb1.size
      refine hK.out _ _ hx1 (fun hh => ?_)
      clear hK K
      try go_frame
      refine tkA 7 _ hh ?_
      try go_frame
      refine tkA 8 _ hh ?_
      try go_frame
      refine tkA 9 _ hh ?_
      try go_frame
      refine wpAnyH_take (i := 10) (oi := _) (v := undef) (by simp only [List.getElem?_toArray, List.getElem?_cons_succ, List.getElem?_cons_zero]; rfl) (by kernel_rfl) (by kernel_rfl) (by kernel_rfl) (by intro _ _ _ h; exact h) (Or.inr ⟨by rfl, rfl⟩) hh ?_
      try go_frame
      refine wpAnyH_take (i := 11) (oi := _) (v := undef) (by simp only [List.getElem?_toArray, List.getElem?_cons_succ, List.getElem?_cons_zero]; rfl) (by kernel_rfl) (by kernel_rfl) (by kernel_rfl) (by intro _ _ _ h; exact h) (Or.inr ⟨by rfl, rfl⟩) hh ?_
      try go_frame
      refine tkA 12 _ hh ?_
      try go_frame
      refine tkA 13 _ hh ?_
      try go_frame
      refine wpAnyH_done (by kernel_rfl) ?_ _
      go_wp2_with fail
      go_ret
      exact ⟨ret_bool HF.out.symm, by first | exact hB2 | exact hB1 | exact hb0⟩
    ·have f1 : ¬ s.toList = s'.toList := fun h => es (str_ext h)
     have f2 : ¬ s'.toList = s.toList := fun h => es (str_ext h.symm)
     have f3 : (s.toList == s'.toList) = false := by rw [beq_eq_false_iff_ne]; exact f1
     have f4 : (s'.toList == s.toList) = false := by rw [beq_eq_false_iff_ne]; exact f2
     have HF : Hid (rightI (o, n, k, s, c, m, d) = false) := hid (by rw [HR.out, hk, decide_eq_false (by intro e; simp only [Prod.mk.injEq] at e; exact es (by simp_all))]; rfl)
     clear HR
     go_enter Tryz.func193, Tryz.ntmps193
     go_wp2_with fail
     refine wp_region_held_drew (S := (fun w' => w'.cell? ⟨w.heap.size, 0, none⟩ = some (.int .i64 o) /\ w'.cell? ⟨w.heap.size, 1, none⟩ = some (.int .i32 n) /\ w'.cell? ⟨w.heap.size, 2, none⟩ = some (.int .i64 k) /\ w'.cell? ⟨w.heap.size, 3, none⟩ = some (.string s) /\ w'.cell? ⟨w.heap.size, 4, none⟩ = some (.string c) /\ w'.cell? ⟨w.heap.size, 5, none⟩ = some (.string m) /\ w'.cell? ⟨w.heap.size, 6, none⟩ = some (.string d))) (by kernel_rfl) hx0 (fun hh => ?_)
     refine wpAnyH_take (i := 0) (oi := _) (v := ?_) (by rfl) (by kernel_rfl) (by kernel_rfl) (by kernel_rfl) (by intro _ _ _ h; exact h) (Or.inl ⟨by rfl, fun W hSw => ?_⟩) hh ?_
     rotate_left 1
     ·(clear hSw; first | (go_simp; done) | (go_simp; with_reducible rfl))
     try go_frame
     refine tkB 1 _ hh ?_
     try go_frame
     refine rdH [2] ?_
     refine rcH (fun K hK => ?_) AllReadyH.nil
     clear hh
     go_simp
     refine (knownop_any _ _).mono ?_
     rintro e w' ⟨rfl, rfl⟩
     refine hK.out _ _ hx0 (fun hh => ?_)
     clear hK K
     try go_frame
     refine tkA 3 _ hh ?_
     try go_frame
     refine tkB 4 _ hh ?_
     try go_frame
     refine tkB 5 _ hh ?_
     try go_frame
     refine rdH [6] ?_
     refine rcH (fun K hK => ?_) AllReadyH.nil
     clear hh
     go_simp
     refine (HUS.out _).mono ?_
     rintro e w1 ⟨rfl, hb1⟩
     have hB1 : Below w.heap.size w w1 := hb0.trans (hb1.mono hb0.size)
     have hx1 := ibox_next hx0 hX0 hb1
     have hX1 := Nat.lt_of_lt_of_le hX0 hb1.size
     refine hK.out _ _ hx1 (fun hh => ?_)
     clear hK K
     try go_frame
     refine tkA 7 _ hh ?_
     try go_frame
     refine tkA 8 _ hh ?_
     try go_frame
     refine tkA 9 _ hh ?_
     try go_frame
     refine wpAnyH_take (i := 10) (oi := _) (v := undef) (by simp only [List.getElem?_toArray, List.getElem?_cons_succ, List.getElem?_cons_zero]; rfl) (by kernel_rfl) (by kernel_rfl) (by kernel_rfl) (by intro _ _ _ h; exact h) (Or.inr ⟨by rfl, rfl⟩) hh ?_
     try go_frame
     refine wpAnyH_take (i := 11) (oi := _) (v := undef) (by simp only [List.getElem?_toArray, List.getElem?_cons_succ, List.getElem?_cons_zero]; rfl) (by kernel_rfl) (by kernel_rfl) (by kernel_rfl) (by intro _ _ _ h; exact h) (Or.inr ⟨by rfl, rfl⟩) hh ?_
     try go_frame
     refine tkA 12 _ hh ?_
     try go_frame
     refine tkA 13 _ hh ?_
     try go_frame
     refine wpAnyH_done (by kernel_rfl) ?_ _
     go_wp2_with fail
     go_ret
     exact ⟨ret_bool HF.out.symm, by first | exact hB2 | exact hB1 | exact hb0⟩
   ·have f1 : ¬ k = k' := ek
    have f2 : ¬ k' = k := fun h => ek h.symm
    have f3 : (k == k') = false := by rw [beq_eq_false_iff_ne]; exact f1
    have f4 : (k' == k) = false := by rw [beq_eq_false_iff_ne]; exact f2
    have HF : Hid (rightI (o, n, k, s, c, m, d) = false) := hid (by rw [HR.out, hk, decide_eq_false (by intro e; simp only [Prod.mk.injEq] at e; exact ek (by simp_all))]; rfl)
    clear HR
    go_enter Tryz.func193, Tryz.ntmps193
    go_wp2_with fail
    refine wp_region_held_drew (S := (fun w' => w'.cell? ⟨w.heap.size, 0, none⟩ = some (.int .i64 o) /\ w'.cell? ⟨w.heap.size, 1, none⟩ = some (.int .i32 n) /\ w'.cell? ⟨w.heap.size, 2, none⟩ = some (.int .i64 k) /\ w'.cell? ⟨w.heap.size, 3, none⟩ = some (.string s) /\ w'.cell? ⟨w.heap.size, 4, none⟩ = some (.string c) /\ w'.cell? ⟨w.heap.size, 5, none⟩ = some (.string m) /\ w'.cell? ⟨w.heap.size, 6, none⟩ = some (.string d))) (by kernel_rfl) hx0 (fun hh => ?_)
    refine wpAnyH_take (i := 0) (oi := _) (v := ?_) (by rfl) (by kernel_rfl) (by kernel_rfl) (by kernel_rfl) (by intro _ _ _ h; exact h) (Or.inl ⟨by rfl, fun W hSw => ?_⟩) hh ?_
    rotate_left 1
    ·(clear hSw; first | (go_simp; done) | (go_simp; with_reducible rfl))
    try go_frame
    refine tkB 1 _ hh ?_
    try go_frame
    refine rdH [2] ?_
    refine rcH (fun K hK => ?_) AllReadyH.nil
    clear hh
    go_simp
    refine (knownop_any _ _).mono ?_
    rintro e w' ⟨rfl, rfl⟩
    refine hK.out _ _ hx0 (fun hh => ?_)
    clear hK K
    try go_frame
    refine tkA 3 _ hh ?_
    try go_frame
    refine tkB 4 _ hh ?_
    try go_frame
    refine tkB 5 _ hh ?_
    try go_frame
    refine rdH [6] ?_
    refine rcH (fun K hK => ?_) AllReadyH.nil
    clear hh
    go_simp
    refine (HUS.out _).mono ?_
    rintro e w1 ⟨rfl, hb1⟩
    have hB1 : Below w.heap.size w w1 := hb0.trans (hb1.mono hb0.size)
    have hx1 := ibox_next hx0 hX0 hb1
    have hX1 := Nat.lt_of_lt_of_le hX0 hb1.size
    refine hK.out _ _ hx1 (fun hh => ?_)
    clear hK K
    try go_frame
    refine tkA 7 _ hh ?_
    try go_frame
    refine tkA 8 _ hh ?_
    try go_frame
    refine tkA 9 _ hh ?_
    try go_frame
    refine wpAnyH_take (i := 10) (oi := _) (v := undef) (by simp only [List.getElem?_toArray, List.getElem?_cons_succ, List.getElem?_cons_zero]; rfl) (by kernel_rfl) (by kernel_rfl) (by kernel_rfl) (by intro _ _ _ h; exact h) (Or.inr ⟨by rfl, rfl⟩) hh ?_
    try go_frame
    refine wpAnyH_take (i := 11) (oi := _) (v := undef) (by simp only [List.getElem?_toArray, List.getElem?_cons_succ, List.getElem?_cons_zero]; rfl) (by kernel_rfl) (by kernel_rfl) (by kernel_rfl) (by intro _ _ _ h; exact h) (Or.inr ⟨by rfl, rfl⟩) hh ?_
    try go_frame
    refine tkA 12 _ hh ?_
    try go_frame
    refine tkA 13 _ hh ?_
    try go_frame
    refine wpAnyH_done (by kernel_rfl) ?_ _
    go_wp2_with fail
    go_ret
    exact ⟨ret_bool HF.out.symm, by first | exact hB2 | exact hB1 | exact hb0⟩
  ·have f1 : ¬ n = n' := en
   have f2 : ¬ n' = n := fun h => en h.symm
   have f3 : (n == n') = false := by rw [beq_eq_false_iff_ne]; exact f1
   have f4 : (n' == n) = false := by rw [beq_eq_false_iff_ne]; exact f2
   have HF : Hid (rightI (o, n, k, s, c, m, d) = false) := hid (by rw [HR.out, hk, decide_eq_false (by intro e; simp only [Prod.mk.injEq] at e; exact en (by simp_all))]; rfl)
   clear HR
   go_enter Tryz.func193, Tryz.ntmps193
   go_wp2_with fail
   refine wp_region_held_drew (S := (fun w' => w'.cell? ⟨w.heap.size, 0, none⟩ = some (.int .i64 o) /\ w'.cell? ⟨w.heap.size, 1, none⟩ = some (.int .i32 n) /\ w'.cell? ⟨w.heap.size, 2, none⟩ = some (.int .i64 k) /\ w'.cell? ⟨w.heap.size, 3, none⟩ = some (.string s) /\ w'.cell? ⟨w.heap.size, 4, none⟩ = some (.string c) /\ w'.cell? ⟨w.heap.size, 5, none⟩ = some (.string m) /\ w'.cell? ⟨w.heap.size, 6, none⟩ = some (.string d))) (by kernel_rfl) hx0 (fun hh => ?_)
   refine wpAnyH_take (i := 0) (oi := _) (v := ?_) (by rfl) (by kernel_rfl) (by kernel_rfl) (by kernel_rfl) (by intro _ _ _ h; exact h) (Or.inl ⟨by rfl, fun W hSw => ?_⟩) hh ?_
   rotate_left 1
   ·(clear hSw; first | (go_simp; done) | (go_simp; with_reducible rfl))
   try go_frame
   refine tkB 1 _ hh ?_
   try go_frame
   refine rdH [2] ?_
   refine rcH (fun K hK => ?_) AllReadyH.nil
   clear hh
   go_simp
   refine (knownop_any _ _).mono ?_
   rintro e w' ⟨rfl, rfl⟩
   refine hK.out _ _ hx0 (fun hh => ?_)
   clear hK K
   try go_frame
   refine tkA 3 _ hh ?_
   try go_frame
   refine tkB 4 _ hh ?_
   try go_frame
   refine tkB 5 _ hh ?_
   try go_frame
   refine rdH [6] ?_
   refine rcH (fun K hK => ?_) AllReadyH.nil
   clear hh
   go_simp
   refine (HUS.out _).mono ?_
   rintro e w1 ⟨rfl, hb1⟩
   have hB1 : Below w.heap.size w w1 := hb0.trans (hb1.mono hb0.size)
   have hx1 := ibox_next hx0 hX0 hb1
   have hX1 := Nat.lt_of_lt_of_le hX0 hb1.size
   refine hK.out _ _ hx1 (fun hh => ?_)
   clear hK K
   try go_frame
   refine tkA 7 _ hh ?_
   try go_frame
   refine tkA 8 _ hh ?_
   try go_frame
   refine tkA 9 _ hh ?_
   try go_frame
   refine wpAnyH_take (i := 10) (oi := _) (v := undef) (by simp only [List.getElem?_toArray, List.getElem?_cons_succ, List.getElem?_cons_zero]; rfl) (by kernel_rfl) (by kernel_rfl) (by kernel_rfl) (by intro _ _ _ h; exact h) (Or.inr ⟨by rfl, rfl⟩) hh ?_
   try go_frame
   refine wpAnyH_take (i := 11) (oi := _) (v := undef) (by simp only [List.getElem?_toArray, List.getElem?_cons_succ, List.getElem?_cons_zero]; rfl) (by kernel_rfl) (by kernel_rfl) (by kernel_rfl) (by intro _ _ _ h; exact h) (Or.inr ⟨by rfl, rfl⟩) hh ?_
   try go_frame
   refine tkA 12 _ hh ?_
   try go_frame
   refine tkA 13 _ hh ?_
   try go_frame
   refine wpAnyH_done (by kernel_rfl) ?_ _
   go_wp2_with fail
   go_ret
   exact ⟨ret_bool HF.out.symm, by first | exact hB2 | exact hB1 | exact hb0⟩
end Go.Proofs.YtijnimjmimeefaaGreat.O
namespace Go.Proofs.YtijnimjmimeefaaGreat.O
open Go.Proofs.YtijnimjmimeefaaGreat.D
open Go.RowKit
theorem samev_any (o n k o' n' k' : Int) (s c m d s' c' m' d' : ByteArray) (w : World) :
  Calls Tryz.prog 133 #[.agg #[.int .i64 o, .int .i32 n, .int .i64 k, .string s, .string c, .string m, .string d], .agg #[.int .i64 o', .int .i32 n', .int .i64 k', .string s', .string c', .string m', .string d']] w fun e w' => e = .returned (.bool (decide ((o, n, k, s, c, m, d) = (o', n', k', s', c', m', d')))) /\ Below w.heap.size w w' := by
 have := same_any o n k o' n' k' s c m d s' c' m' d' w
 rw [insV_mk, insV_mk] at this
 exact this
end Go.Proofs.YtijnimjmimeefaaGreat.O
namespace Go.Proofs.YtijnimjmimeefaaGreat.D
open Go.RowKit
theorem bld_ptr : Tryz.prog.underlying 244 = some (.pointer 246) := Tryz.underlying244
theorem bld_uns : Tryz.prog.underlying 259 = some .unsafePointer := Tryz.underlying259
theorem bld_size : (Tryz.prog.info? 246).map (·.size) = some 2 := by kernel_rfl
theorem bld_lies : liesAt Tryz.prog Tryz.prog.depth 246 (2 / Tryz.prog.cellsOf 246) 0 246 1 = true := by kernel_rfl
theorem bld_info : (Tryz.prog.info? 5).map (fun i => (i.zero, i.size, i.bytes)) = some (some (.int .u8 0), 1, 1) := by kernel_rfl
def Bld (w : World) (B b : Nat) (l : List UInt8) : Prop := Lib.IsBuilder 246 5 B b (Lib.byteCells l) w
theorem ownsRow_below {w w' : World} {B C : Nat} {E : TypeId} {v : Value} {n : Nat} {l : List Value} (h : w.ownsRow B E 1 v n l) (hb : Below C w w') (hC : ∀ g, v.ownBlock = some g -> g < C) : w'.ownsRow B E 1 v n l := by
 refine ⟨h.1, ?_⟩
 rcases h.2 with h' | ⟨g, cap, cur, e, hB, hg, r⟩
 ·exact .inl h'
 ·refine .inr ⟨g, cap, cur, e, hB, ?_, r⟩
  rw [hb.block g (hC g (by rw [e]; rfl))]
  exact hg
theorem bldAt_below {w w' : World} {B C b : Nat} {T E : TypeId} {p : Value} {l : List Value} (h : Lib.BuilderAt T E B b p l w) (hb : Below C w w') (hC : w.heap.size <= C) : Lib.BuilderAt T E B b p l w' := by
 have hlt := h.lt
 obtain ⟨h1, v, h2, h3, h4⟩ := h
 refine ⟨h1, v, ?_, ?_, h4⟩
 ·rw [hb.block b (by omega)]; exact h2
 ·exact ownsRow_below h3 hb (fun g hg => Nat.lt_of_lt_of_le (h3.lt g hg).2 hC)
theorem Bld.below {w w' : World} {B C b : Nat} {l : List UInt8} (h : Bld w B b l) (hb : Below C w w') (hC : w.heap.size <= C) : Bld w' B b l := by
 rcases h with h | h
 ·exact .inl (bldAt_below h hb hC)
 ·exact .inr (bldAt_below h hb hC)
theorem bld_check_fresh (b : Nat) (w : World) (h0 : w.cell? ⟨b, 0, none⟩ = some (.pointer none)) (hsh : w.shape? b = some (246, 2)) (hfz : w.frozen? ⟨b, 0, none⟩ = false) :
  Calls Tryz.prog 210 #[.pointer (some ⟨b, 0, none⟩)] w fun e w' => e = .returned (.tuple #[]) /\ w' = w.setCell ⟨b, 0, none⟩ (.pointer (some ⟨b, 0, none⟩)) := by
 obtain ⟨j, hj, hjs⟩ := Option.map_eq_some_iff.1 bld_size
 go_enter Tryz.func210, Tryz.ntmps210
 go_wp2_with fail
 rw [Lib.run_to_unsafe w ⟨b, 0, none⟩ bld_ptr bld_uns hj (by rw [hjs]; decide) hsh (Nat.zero_lt_succ 1)]
 simp only [Result.andThen]
 rw [Oper.upon_value]
 go_wp2_with fail
 rw [run_callFunc_extern Tryz.func215 (by kernel_rfl) (by kernel_rfl) (by kernel_rfl) (e := Extern.AbiNoEscape.same) (by kernel_rfl)]
 rw [Lib.run_noEscape]
 simp only [Result.andThen]
 rw [Oper.upon_value]
 go_wp2_with fail
 rw [Lib.run_from_unsafe w ⟨b, 0, none⟩ bld_uns bld_ptr hj hsh bld_lies]
 simp only [Result.andThen]
 rw [Oper.upon_value]
 go_wp2_with fail
 go_end0
 exact ⟨rfl, rfl⟩
theorem bld_check_used (b : Nat) (w : World) (h0 : w.cell? ⟨b, 0, none⟩ = some (.pointer (some ⟨b, 0, none⟩))) :
  Calls Tryz.prog 210 #[.pointer (some ⟨b, 0, none⟩)] w fun e w' => e = .returned (.tuple #[]) /\ w' = w := by
 obtain ⟨j, hj, _⟩ := Option.map_eq_some_iff.1 bld_size
 go_enter Tryz.func210, Tryz.ntmps210
 go_wp2_with fail
 rw [Lib.run_neq_ptr_same w _ bld_ptr hj]
 go_wp2_with fail
 go_end0
 exact ⟨rfl, rfl⟩
theorem bld_check (B b : Nat) (l : List UInt8) (w : World) (h : Bld w B b l) :
  Calls Tryz.prog 210 #[.pointer (some ⟨b, 0, none⟩)] w fun e w' => e = .returned (.tuple #[]) /\ Lib.BuilderAt 246 5 B b (.pointer (some ⟨b, 0, none⟩)) (Lib.byteCells l) w' /\ Below B w w' := by
 rcases h with h | h
 ·refine (bld_check_fresh b w h.cell0 h.shape h.frozen0).mono ?_
  rintro e w' ⟨rfl, rfl⟩
  exact ⟨rfl, h.used _, (Below.refl B w).setCell (p := ⟨b, 0, none⟩) h.1 _⟩
 ·refine (bld_check_used b w h.cell0).mono ?_
  rintro e w' ⟨rfl, rfl⟩
  exact ⟨rfl, h, Below.refl B _⟩
theorem bld_byte (B b : Nat) (l : List UInt8) (c : Int) (x : UInt8) (hx : c = (x.toNat : Int)) (w : World) (h : Bld w B b l) (hlen : l.length + 1 <= 140737488355328) (hBw : B <= w.heap.size) :
  Calls Tryz.prog 197 #[.pointer (some ⟨b, 0, none⟩), .int .u8 c] w fun e w' => e = .returned .nilIface /\ Bld w' B b (l ++ [x]) /\ Below B w w' := by
 obtain ⟨i0, hi, hz0, hz1, hz2⟩ := info_parts bld_info
 have HX := hid hx
 clear hx
 go_enter Tryz.func197, Tryz.ntmps197
 go_wp2_with (go_at_call 210; refine (bld_check B b l _ h).mono ?_)
 rintro e w1 ⟨rfl, h1, hb1⟩
 obtain ⟨hB, v, hbk, hown, hne⟩ := h1
 have hs1 := hb1.size
 have c0 : w1.cell? ⟨b, 0, none⟩ = some (.pointer (some ⟨b, 0, none⟩)) := by rw [Lib.cell_of_heap hbk]; rfl
 have c1 : w1.cell? ⟨b, 1, none⟩ = some v := by rw [Lib.cell_of_heap hbk]; rfl
 go_wp2_with (at_builtin; refine wpList_append_own _ rfl _ _ 26 rfl B 5 i0 (.int .u8 0) 1 1 Tryz.underlying26 hi hz0 hz1 hz2 rfl (by decide) _ _ _ rfl (hown.alloc _) ⟨w1.heap.size, 0, none⟩ 1 1 [.int .u8 c] rfl rfl ?c1 ?c2 ?c3 ?c4 ?c5 ?_)
 case c1 =>
  intro j u hj
  match j, hj with
  | 0, hj => simp at hj; subst hj; simp [Addr.add]
 case c2 => intro u hu; simp at hu; subst hu; rfl
 case c3 => rw [Lib.byteCells_length]; unfold maxLen; omega
 case c4 => rw [Lib.byteCells_length]; omega
 case c5 => simp; omega
 intro v' w2 hown' hgrow _
 have hlt : b < w1.heap.size := by
  rcases Nat.lt_or_ge b w1.heap.size with h' | h'
  ·exact h'
  ·simp [Array.getElem?_eq_none h'] at hbk
 have hb2 : w2.heap[b]? = some (.cells #[.pointer (some ⟨b, 0, none⟩), v] 246 (0, 0)) := by
  rw [hgrow.block b (by simp; omega) (fun e => hne e.symm), Lib.alloc_old w1 _ b hlt]
  exact hbk
 have d0 : w2.cell? ⟨b, 0, none⟩ = some (.pointer (some ⟨b, 0, none⟩)) := by rw [Lib.cell_of_heap hb2]; rfl
 have d1 : w2.cell? ⟨b, 1, none⟩ = some v := by rw [Lib.cell_of_heap hb2]; rfl
 have f1 : w2.frozen? ⟨b, 1, none⟩ = false := Lib.frozen_of_heap hb2 1
 obtain ⟨g, cap, rfl⟩ : ∃ g cap, v' = .slice (some ⟨g, 0, none⟩) ((Lib.byteCells l).length + 1) cap := by
  rcases hown'.2 with ⟨_, h0⟩ | ⟨g, cap, cur, hv, _⟩
  ·omega
  ·exact ⟨g, cap, hv⟩
 go_wp2_with fail
 go_ret
 have e : Lib.byteCells (l ++ [x]) = Lib.byteCells l ++ [.int .u8 c] := by rw [HX.out]; simp [Lib.byteCells]
 refine ⟨rfl, .inr ?_, ?_⟩
 ·rw [e]
  exact Lib.BuilderAt.put (T := 246) (e := 5) hB hb2 (bs' := Lib.byteCells l ++ [.int .u8 c]) (by simpa using hown') (by decide)
 ·exact ((hb1.alloc (by omega) _).grown hgrow (by simp; omega) (fun k hk => (hown.lt k hk).1)).setCell (p := ⟨b, 1, none⟩) hB _
theorem bld_str (B b : Nat) (l : List UInt8) (s : ByteArray) (w : World) (h : Bld w B b l) (hlen : l.length + s.size <= 140737488355328) (hBw : B <= w.heap.size) :
  Calls Tryz.prog 198 #[.pointer (some ⟨b, 0, none⟩), .string s] w fun e w' => e = .returned (.tuple #[.int .i64 s.size, .nilIface]) /\ Bld w' B b (l ++ s.data.toList) /\ Below B w w' := by
 obtain ⟨i0, hi, hz0, hz1, hz2⟩ := info_parts bld_info
 go_enter Tryz.func198, Tryz.ntmps198
 go_wp2_with (go_at_call 210; refine (bld_check B b l _ h).mono ?_)
 rintro e w1 ⟨rfl, h1, hb1⟩
 obtain ⟨hB, v, hbk, hown, hne⟩ := h1
 have hs1 := hb1.size
 have c0 : w1.cell? ⟨b, 0, none⟩ = some (.pointer (some ⟨b, 0, none⟩)) := by rw [Lib.cell_of_heap hbk]; rfl
 have c1 : w1.cell? ⟨b, 1, none⟩ = some v := by rw [Lib.cell_of_heap hbk]; rfl
 go_wp2_with (at_builtin; refine Lib.wpList_append_own_string _ rfl _ _ 26 9 rfl B 5 i0 Tryz.underlying26 Tryz.underlying9 hi hz0 hz1 hz2 _ _ _ rfl hown s rfl ?c3 ?c4 ?c5 ?_)
 case c3 => rw [Lib.byteCells_length]; unfold maxLen; omega
 case c4 => rw [Lib.byteCells_length]; omega
 case c5 => omega
 intro v' w2 hown' hgrow _
 have hlt : b < w1.heap.size := by
  rcases Nat.lt_or_ge b w1.heap.size with h' | h'
  ·exact h'
  ·simp [Array.getElem?_eq_none h'] at hbk
 have hb2 : w2.heap[b]? = some (.cells #[.pointer (some ⟨b, 0, none⟩), v] 246 (0, 0)) := by
  rw [hgrow.block b hlt (fun e => hne e.symm)]
  exact hbk
 have d0 : w2.cell? ⟨b, 0, none⟩ = some (.pointer (some ⟨b, 0, none⟩)) := by rw [Lib.cell_of_heap hb2]; rfl
 have d1 : w2.cell? ⟨b, 1, none⟩ = some v := by rw [Lib.cell_of_heap hb2]; rfl
 have f1 : w2.frozen? ⟨b, 1, none⟩ = false := Lib.frozen_of_heap hb2 1
 obtain ⟨ao, n', cap, rfl⟩ : ∃ ao n' cap, v' = .slice ao n' cap := by
  rcases hown'.2 with ⟨hv, _⟩ | ⟨g, cap, cur, hv, _⟩
  ·exact ⟨_, _, _, hv⟩
  ·exact ⟨_, _, _, hv⟩
 go_wp2_with fail
 go_ret2
 have e : Lib.byteCells (l ++ s.data.toList) = Lib.byteCells l ++ Lib.strCells s := by simp [Lib.byteCells, Lib.strCells]
 refine ⟨rfl, .inr ?_, ?_⟩
 ·rw [e]
  exact Lib.BuilderAt.put (T := 246) (e := 5) hB hb2 (bs' := Lib.byteCells l ++ Lib.strCells s) (by simpa [Lib.strCells_length] using hown') (by decide)
 ·exact (hb1.grown hgrow (by omega) (fun k hk => (hown.lt k hk).1)).setCell (p := ⟨b, 1, none⟩) hB _
theorem bld_done (B b : Nat) (l : List UInt8) (w : World) (h : Bld w B b l) (hBw : B <= w.heap.size) :
  Calls Tryz.prog 199 #[.pointer (some ⟨b, 0, none⟩)] w fun e w' => e = .returned (.string ⟨l.toArray⟩) /\ Below B w w' :=
 Tryz.Builder_String_any B b l w h hBw
theorem bld_new (w : World) : Bld (w.alloc (.cells #[.pointer none, .slice none 0 0] 246)) w.heap.size w.heap.size [] := Lib.fresh_isBuilder _ _ w
end Go.Proofs.YtijnimjmimeefaaGreat.D
namespace Go.Proofs.YtijnimjmimeefaaGreat.D
open Go.RowKit
theorem typeL_len (t : Ty) : (typeL t).length <= t.2.size + 2 := by
 unfold typeL typeT
 split
 ·show 1 <= _; omega
 split
 ·show 1 <= _; omega
 split
 ·show 1 <= _; omega
 split
 ·show 1 <= _; omega
 split
 ·rw [data_app, data_app, List.length_append, List.length_append, Lib.size_eq]
  show 1 + _ + 1 <= _
  omega
 ·show 0 <= _; omega
theorem flat_len (ts : List Ty) (m : Nat) (h : ∀ u ∈ ts, u.2.size <= m) : (ts.flatMap typeL).length <= ts.length * (m + 2) := by
 induction ts with
 | nil => simp
 | cons t ts ih =>
  have h1 := ih (fun u hu => h u (List.mem_cons_of_mem _ hu))
  have h2 := typeL_len t
  have h3 := h t (List.mem_cons_self ..)
  rw [List.flatMap_cons, List.length_append, List.length_cons, Nat.add_mul]
  omega
theorem flat_take (ts : List Ty) (k : Nat) (t : Ty) (h : ts[k]? = some t) : (ts.take (k + 1)).flatMap typeL = (ts.take k).flatMap typeL ++ typeL t := by
 obtain ⟨hk, rfl⟩ := List.getElem?_eq_some_iff.1 h
 rw [List.take_succ_eq_append_getElem hk, List.flatMap_append, List.flatMap_cons, List.flatMap_nil, List.append_nil]
theorem flat_take_len (ts : List Ty) (k m : Nat) (h : ∀ u ∈ ts, u.2.size <= m) : ((ts.take k).flatMap typeL).length <= ts.length * (m + 2) := by
 refine Nat.le_trans (flat_len (ts.take k) m (fun u hu => h u (List.mem_of_mem_take hu))) ?_
 exact Nat.mul_le_mul_right _ (by rw [List.length_take]; omega)
theorem of_any (v : Value) (ts : List Ty) (k0 : Int) (c0 : ByteArray) (w : World) (hr : RdT w v ts) (hlen : ts.length <= 1000) (hc : ∀ u ∈ ts, u.2.size <= 1000000) (ht : c0.size <= 1000000) :
  Calls Tryz.prog 167 #[v, .agg #[.int .i64 k0, .string c0]] w fun e w' => e = .returned (.string (bx (ofL ts (k0, c0)))) /\ Below w.heap.size w w' := by
 obtain ⟨p, cap, rfl, h1, h2, h3⟩ := id hr
 have HC := hid hc
 have HT : Hid (∀ k, ((ts.take k).flatMap typeL).length <= ts.length * 1000002) := hid (fun k => flat_take_len ts k 1000000 hc)
 have HL := hid (typeL_len (k0, c0))
 have HR := hid hr
 clear hc hr h1 h2 h3
 go_enter Tryz.func167, Tryz.ntmps167
 go_wp2_with fail
 refine (bld_byte (w.heap.size + 1) (w.heap.size + 1) [] 40 40 rfl _ ?_ (by decide) (by simp)).mono ?_
 ·have := bld_new (w.alloc (.cells #[.int .i64 k0, .string c0] 55))
  simpa using this
 rintro e w1 ⟨rfl, hB1, hb1⟩
 have hbl1 : Below (w.heap.size + 1) (w.alloc (.cells #[.int .i64 k0, .string c0] 55)) w1 := ((Below.refl _ _).alloc (by simp) _).trans hb1
 clear hb1
 go_wp2_with fail
 go_loopw [11] (fun i wr => ∃ k : Nat, k <= ts.length /\ i = .int .i64 k /\ Bld wr (w.heap.size + 1) (w.heap.size + 1) (40 :: (ts.take k).flatMap typeL) /\ Below (w.heap.size + 1) (w.alloc (.cells #[.int .i64 k0, .string c0] 55)) wr) (fun i _ => ts.length - (intOf i).toNat)
 case atStart => exact ⟨0, Nat.zero_le _, rfl, by simpa using hB1, hbl1⟩
 case round =>
  clear hB1 hbl1
  obtain ⟨k, hk, rfl, hB, hbl⟩ := hrel
  have hs := hbl.size
  simp at hs
  by_cases hlt : k < ts.length
  ·obtain ⟨⟨x0, x1⟩, hx⟩ : ∃ t, ts[k]? = some t := ⟨_, List.getElem?_eq_getElem hlt⟩
   have hr2 := HR.out.below (((Below.refl w.heap.size w).alloc (Nat.le_refl _) (.cells #[.int .i64 k0, .string c0] 55)).trans (hbl.mono (by omega))) (Nat.le_refl _)
   obtain ⟨p', cap', e', g1, _, g3⟩ := hr2
   simp only [Value.slice.injEq, true_and] at e'
   obtain ⟨rfl, rfl⟩ := e'
   obtain ⟨⟨b, off, spot⟩, rfl⟩ : ∃ a, p = some a := by
    cases p with
    | none =>
     obtain ⟨p'', _, e'', _, g2, _⟩ := HR.out
     simp only [Value.slice.injEq] at e''
     have := g2 e''.1.symm
     subst this
     simp at hlt
    | some a => exact ⟨a, rfl⟩
   obtain rfl : spot = none := g1 _ rfl (fun e => by subst e; simp at hlt)
   obtain ⟨cx0, cx1⟩ := g3 _ rfl k _ hx
   simp only at cx0 cx1
   have hx1 := HC.out _ (List.mem_of_getElem? hx)
   simp only at hx1
   have HX := hid (flat_take ts k _ hx)
   have hTL := HT.out k
   have hTy := typeL_len (x0, x1)
   simp only at hTy
   clear g1 g3 hx
   go_wp2_with fail
   refine (type_any x0 x1 _ (by omega)).mono ?_
   rintro e w2 ⟨rfl, hb2⟩
   have hB2 := hB.below (((Below.refl wr.heap.size wr).alloc (Nat.le_refl _) _).trans (hb2.mono (by simp))) (Nat.le_refl _)
   have hs2 := hb2.size
   simp at hs2
   go_wp2_with fail
   refine (bld_str _ _ _ _ _ hB2 ?_ ?_).mono ?_
   ·show _ + (typeT x0 x1).size <= _
    rw [Lib.size_eq]
    show _ + (typeL (x0, x1)).length <= _
    simp only [List.length_cons]
    omega
   ·omega
   rintro e w3 ⟨rfl, hB3, hb3⟩
   have hbl3 : Below (w.heap.size + 1) (w.alloc (.cells #[.int .i64 k0, .string c0] 55)) w3 := ((hbl.alloc (by omega) _).trans (hb2.mono (by simp; omega))).trans hb3
   have hB3' : Bld w3 (w.heap.size + 1) (w.heap.size + 1) (40 :: (ts.take (k + 1)).flatMap typeL) := by rw [HX.out]; exact hB3
   clear hB3 hb3 hbl hB hB2 hb2 hTL hTy hs2 cx0 cx1
   go_wp2_with fail
   go_roundw
   case rel => exact ⟨k + 1, by omega, by go_num, hB3', hbl3⟩
   case measure => simp [intOf]; omega
  ·have hkk : k = ts.length := by omega
   have hTL := HT.out k
   have HK : Hid ((ts.take k).flatMap typeL = ts.flatMap typeL) := hid (by rw [List.take_of_length_le (by omega)])
   have hTy := HL.out
   have hc0 : wr.cell? ⟨w.heap.size, 0, none⟩ = some (.int .i64 k0) := (hbl.cell (p := ⟨w.heap.size, 0, none⟩) (by simp)).trans (by simp)
   have hc1 : wr.cell? ⟨w.heap.size, 1, none⟩ = some (.string c0) := (hbl.cell (p := ⟨w.heap.size, 1, none⟩) (by simp)).trans (by simp)
   clear hkk
   go_wp2_with fail
   refine (bld_byte (w.heap.size + 1) (w.heap.size + 1) _ 41 41 rfl _ hB (by simp only [List.length_cons]; omega) (by omega)).mono ?_
   rintro e w4 ⟨rfl, hB4, hb4⟩
   have hd0 : w4.cell? ⟨w.heap.size, 0, none⟩ = some (.int .i64 k0) := (hb4.cell (p := ⟨w.heap.size, 0, none⟩) (by simp)).trans hc0
   have hd1 : w4.cell? ⟨w.heap.size, 1, none⟩ = some (.string c0) := (hb4.cell (p := ⟨w.heap.size, 1, none⟩) (by simp)).trans hc1
   have hs4 := hb4.size
   have hbl4 := hbl.trans hb4
   clear hc0 hc1 hB hbl hb4
   go_wp2_with fail
   refine (type_any k0 c0 _ (by omega)).mono ?_
   rintro e w5 ⟨rfl, hb5⟩
   have hB5 := hB4.below hb5 (Nat.le_refl _)
   have hs5 := hb5.size
   have hbl5 := hbl4.trans (hb5.mono (by omega))
   clear hd0 hd1 hB4 hbl4 hb5
   go_wp2_with fail
   refine (bld_str _ _ _ _ _ hB5 ?_ ?_).mono ?_
   ·show _ + (typeT k0 c0).size <= _
    rw [Lib.size_eq]
    show _ + (typeL (k0, c0)).length <= _
    simp only [List.length_cons, List.length_append, List.length_nil]
    omega
   ·omega
   rintro e w6 ⟨rfl, hB6, hb6⟩
   have hs6 := hb6.size
   have hbl6 := hbl5.trans hb6
   clear hB5 hbl5 hb6
   go_wp2_with fail
   refine (bld_done _ _ _ _ hB6 (by omega)).mono ?_
   rintro e w7 ⟨rfl, hb7⟩
   go_wp2_with fail
   go_ret
   refine ⟨ret_str ?_, (((Below.refl w.heap.size w).alloc (Nat.le_refl _) _).trans ((hbl6.trans hb7).mono (by omega)))⟩
   rw [HK.out]
   show (⟨(_ : List UInt8).toArray⟩ : ByteArray) = bx (ofL ts (k0, c0))
   unfold bx ofL typeL
   simp
end Go.Proofs.YtijnimjmimeefaaGreat.D
namespace Go.Proofs.YtijnimjmimeefaaGreat.A
open Go.RowKit Go.Proofs.YtijnimjmimeefaaGreat.D Go.Proofs.YtijnimjmimeefaaGreat.O
abbrev Fld : Type := ByteArray × Ty × Bool
abbrev Hnd : Type := Int × Int × Int × ByteArray
structure Mth where
 name : ByteArray
 params : List Ty
 ret : Ty
 st : Bool
 ab : Bool
 locals : Int
 code : List Ins
 hs : List Hnd
structure Cls where
 name : ByteArray
 super : ByteArray
 ifaces : List ByteArray
 kind : Int
 fields : List Fld
 methods : List Mth
abbrev Arch : Type := List Cls
instance tyDec : DecidableEq Ty := inferInstanceAs (DecidableEq (Int × ByteArray))
instance b4Dec : DecidableEq (ByteArray × ByteArray × ByteArray × ByteArray) := inferInstance
instance insDec : DecidableEq Ins := @instDecidableEqProd _ _ inferInstance (@instDecidableEqProd _ _ inferInstance (@instDecidableEqProd _ _ inferInstance b4Dec))
instance hndDec : DecidableEq Hnd := inferInstanceAs (DecidableEq (Int × Int × Int × ByteArray))
instance fldDec : DecidableEq Fld := inferInstanceAs (DecidableEq (ByteArray × Ty × Bool))
theorem Mth.eq_iff (a b : Mth) : (a.name = b.name /\ a.params = b.params /\ a.ret = b.ret /\ a.st = b.st /\ a.ab = b.ab /\ a.locals = b.locals /\ a.code = b.code /\ a.hs = b.hs) ↔ a = b := by
 cases a; cases b; simp
instance : DecidableEq Mth := fun a b => decidable_of_iff (a.name = b.name /\ a.params = b.params /\ a.ret = b.ret /\ a.st = b.st /\ a.ab = b.ab /\ a.locals = b.locals /\ a.code = b.code /\ a.hs = b.hs) (Mth.eq_iff a b)
theorem Cls.eq_iff (a b : Cls) : (a.name = b.name /\ a.super = b.super /\ a.ifaces = b.ifaces /\ a.kind = b.kind /\ a.fields = b.fields /\ a.methods = b.methods) ↔ a = b := by
 cases a; cases b; simp
instance : DecidableEq Cls := fun a b => decidable_of_iff (a.name = b.name /\ a.super = b.super /\ a.ifaces = b.ifaces /\ a.kind = b.kind /\ a.fields = b.fields /\ a.methods = b.methods) (Cls.eq_iff a b)
def holdsB (t : Ty) : Bool := rightB t.1 t.2 && !decide (t.1 = 5)
def upToB (n m : Int) : Bool := decide (0 <= n /\ n <= m)
def allB {α : Type} (m : Nat) (f : α -> Bool) (l : List α) : Bool := decide (l.length <= m) && l.all f
def fldB (f : Fld) : Bool := nameB f.1 && holdsB f.2.1
def hndB (h : Hnd) : Bool := upToB h.1 2000 && upToB h.2.1 2000 && upToB h.2.2.1 2000 && nameB h.2.2.2
def mthB (m : Mth) : Bool := nameB m.name && allB 8 holdsB m.params && rightB m.ret.1 m.ret.2 && upToB m.locals 200 && allB 2000 rightI m.code && allB 50 hndB m.hs
def clsB (c : Cls) : Bool := nameB c.name && nameB c.super && allB 20 nameB c.ifaces && decide (1 <= c.kind /\ c.kind <= 4) && allB 100 fldB c.fields && allB 100 mthB c.methods
def formedB (a : Arch) : Bool := allB 400 clsB a
abbrev WS : Type := List ByteArray × List UInt8
def wText (s : ByteArray) (st : WS) : WS := (putL st.1 s, st.2 ++ two (pos st.1 s : Int))
def wNums (zs : List Int) (st : WS) : WS := (st.1, st.2 ++ nums zs)
def wInt (n : Int) (st : WS) : WS := (st.1, st.2 ++ nb (foldN n))
def wAll {α : Type} (f : α -> WS -> WS) : List α -> WS -> WS
 | [], st => st
 | x :: l, st => wAll f l (f x st)
def wList {α : Type} (f : α -> WS -> WS) (l : List α) (st : WS) : WS := wAll f l (wNums [(l.length : Int)] st)
def bitN (b : Bool) (n : Int) : Int := if b then n else 0
def ofT (ps : List Ty) (r : Ty) : ByteArray := bx (ofL ps r)
def wFld (f : Fld) (st : WS) : WS := wNums [bitN f.2.2 1] (wText (typeT f.2.1.1 f.2.1.2) (wText f.1 st))
def wHnd (h : Hnd) (st : WS) : WS := wText h.2.2.2 (wNums [h.1, h.2.1, h.2.2.1] st)
def wUse (x : Ins) (st : WS) : WS :=
 if usesI x.1 = 1 then wInt x.2.1 st else if usesI x.1 = 2 then wText x.2.2.2.1 st else if usesI x.1 = 3 then wNums [x.2.2.1] st else
 if usesI x.1 = 4 then wText x.2.2.2.2.2.1 (wText x.2.2.2.2.1 st) else if usesI x.1 = 5 then wText x.2.2.2.2.2.2 (wText x.2.2.2.2.2.1 (wText x.2.2.2.2.1 st)) else
 if usesI x.1 = 6 then wText x.2.2.2.2.1 st else st
def wIns (x : Ins) (st : WS) : WS := wUse x (wNums [x.1] st)
def wMth (m : Mth) (st : WS) : WS :=
 wList wHnd m.hs (wList wIns m.code (wNums [bitN m.st 1 + bitN m.ab 2, m.locals] (wText (ofT m.params m.ret) (wText m.name st))))
def wCls (c : Cls) (st : WS) : WS :=
 wList wMth c.methods (wList wFld c.fields (wNums [c.kind] (wList wText c.ifaces (wText c.super (wText c.name st)))))
def written (a : Arch) : WS := wList wCls a ([], [])
def rightA (a : Arch) : Bool := formedB a && decide ((written a).1.length <= 10000)
def bon : List UInt8 := [66, 79, 78, 49]
def putA (a : Arch) : List UInt8 := if rightA a then bon ++ poolB (written a).1 ++ (written a).2 else []
abbrev Ps (α : Type) : Type := List UInt8 -> Except Nat (α × List UInt8)
def pb {α β : Type} (p : Ps α) (q : α -> Ps β) : Ps β := fun l => match p l with | .ok (x, r) => q x r | .error e => .error e
def pr {α : Type} (x : α) : Ps α := fun l => .ok (x, l)
def pNum (m : Nat) : Ps Nat := fun l => if (dec m l 0 0).2.2 = 0 then .ok ((dec m l 0 0).1, l.drop (dec m l 0 0).2.1) else .error (dec m l 0 0).2.2
def pInt : Ps Int := pb (pNum 4294967295) fun v => pr (unfoldN v)
def pText (L : List ByteArray) : Ps ByteArray
 | a :: b :: l => if L.length <= a.toNat + b.toNat * 256 then .error 22 else .ok (L.getD (a.toNat + b.toNat * 256) ⟨#[]⟩, l)
 | _ => .error 20
def pMany {α : Type} (p : Ps α) : Nat -> Ps (List α)
 | 0 => pr []
 | n + 1 => pb p fun x => pb (pMany p n) fun xs => pr (x :: xs)
def pList {α : Type} (m : Nat) (p : Ps α) : Ps (List α) := pb (pNum m) fun n => pMany p n
def es : ByteArray := ⟨#[]⟩
def pFld (L : List ByteArray) : Ps Fld := pb (pText L) fun n => pb (pText L) fun t => pb (pNum 1) fun s => pr (n, (oneR t.data.toList).1, decide (s = 1))
def pHnd (L : List ByteArray) : Ps Hnd := pb (pNum 2000) fun f => pb (pNum 2000) fun t => pb (pNum 2000) fun a => pb (pText L) fun c => pr ((f : Int), (t : Int), (a : Int), c)
def pUse (L : List ByteArray) (o : Nat) : Ps Ins :=
 if usesI o = 1 then pb pInt fun n => pr ((o : Int), n, 0, es, es, es, es) else
 if usesI o = 2 then pb (pText L) fun s => pr ((o : Int), 0, 0, s, es, es, es) else
 if usesI o = 3 then pb (pNum 2000) fun k => pr ((o : Int), 0, (k : Int), es, es, es, es) else
 if usesI o = 4 then pb (pText L) fun c => pb (pText L) fun m => pr ((o : Int), 0, 0, es, c, m, es) else
 if usesI o = 5 then pb (pText L) fun c => pb (pText L) fun m => pb (pText L) fun d => pr ((o : Int), 0, 0, es, c, m, d) else
 if usesI o = 6 then pb (pText L) fun c => pr ((o : Int), 0, 0, es, c, es, es) else pr ((o : Int), 0, 0, es, es, es, es)
def pIns (L : List ByteArray) : Ps Ins := pb (pNum 43) fun o => pUse L o
def pMth (L : List ByteArray) : Ps Mth := pb (pText L) fun n => pb (pText L) fun d => pb (pNum 3) fun f => pb (pNum 200) fun lo =>
 pb (pList 2000 (pIns L)) fun c => pb (pList 50 (pHnd L)) fun h => pr ⟨n, (parseR d.data.toList).1, (parseR d.data.toList).2.1, decide (f % 2 = 1), decide (f / 2 = 1), (lo : Int), c, h⟩
def pCls (L : List ByteArray) : Ps Cls := pb (pText L) fun n => pb (pText L) fun s => pb (pList 20 (pText L)) fun i => pb (pNum 4) fun k =>
 pb (pList 100 (pFld L)) fun f => pb (pList 100 (pMth L)) fun m => pr ⟨n, s, i, (k : Int), f, m⟩
def pArc (L : List ByteArray) : Ps Arch := pList 400 (pCls L)
def pStr (m : Nat) : Ps ByteArray := pb (pNum m) fun n => fun l => if l.length < n then .error 20 else .ok (tx (l.take n), l.drop n)
def pPool : Ps (List ByteArray) := pList 10000 (pStr 1000)
def readA (b : List UInt8) : Except Nat Arch :=
 if bon.isPrefixOf b then
  match pPool (b.drop 4) with
  | .error e => .error e
  | .ok (L, l) => match pArc L l with
   | .error e => .error e
   | .ok (a, r) => if r = [] /\ rightA a = true then .ok a else .error 21
 else .error 21
abbrev St : Type := Except Nat (List UInt8)
def adv {α : Type} (p : Ps α) : St -> Except Nat (α × List UInt8)
 | .ok l => p l
 | .error e => .error e
def Took {α : Type} (q : Except Nat (α × List UInt8)) (x : α) (s : St) : Prop :=
 match q with
 | .ok (y, l) => x = y /\ s = .ok l
 | .error e => s = .error e
theorem adv_pr {α : Type} (x : α) (s : St) : Took (adv (pr x) s) x s := by
 cases s <;> simp [adv, pr, Took]
theorem took_pb {α β : Type} {p : Ps α} {q : α -> Ps β} {s s1 s2 : St} {x : α} {y : β} (h1 : Took (adv p s) x s1) (h2 : Took (adv (q x) s1) y s2) : Took (adv (pb p q) s) y s2 := by
 cases s with
 | error e =>
  simp only [adv, Took] at h1
  subst h1
  simpa [adv, Took] using h2
 | ok l =>
  simp only [adv] at h1 ⊢
  unfold pb
  cases hp : p l with
  | error e =>
   rw [hp] at h1
   simp only [Took] at h1
   subst h1
   simpa [adv, Took] using h2
  | ok v =>
   obtain ⟨v, r⟩ := v
   rw [hp] at h1
   simp only [Took] at h1
   obtain ⟨rfl, rfl⟩ := h1
   exact h2
theorem took_err {α : Type} {p : Ps α} {e : Nat} (x : α) : Took (adv p (.error e)) x (.error e) := by simp [adv, Took]
theorem took_map {α β : Type} {p : Ps α} {g : α -> β} {s s1 : St} {x : α} (h1 : Took (adv p s) x s1) : Took (adv (pb p fun v => pr (g v)) s) (g x) s1 :=
 took_pb h1 (adv_pr _ _)
def Wr {α : Type} (f : WS -> WS) (p : List ByteArray -> Ps α) (x : α) : Prop :=
 ∀ st : WS, ∃ M bs, f st = (st.1 ++ M, st.2 ++ bs) /\ ∀ N r, (st.1 ++ M ++ N).length <= 65536 -> p (st.1 ++ M ++ N) (bs ++ r) = .ok (x, r)
theorem Wr.pr {α : Type} (x : α) : Wr (fun st => st) (fun _ => pr x) x := fun st => ⟨[], [], by simp, fun N r _ => rfl⟩
theorem Wr.pb {α β : Type} {f g F : WS -> WS} {p : List ByteArray -> Ps α} {q : List ByteArray -> α -> Ps β} {x : α} {y : β} (h1 : Wr f p x) (h2 : Wr g (fun L => q L x) y) (hF : ∀ st, F st = g (f st)) : Wr F (fun L => A.pb (p L) (q L)) y := by
 intro st
 obtain ⟨M1, b1, e1, r1⟩ := h1 st
 obtain ⟨M2, b2, e2, r2⟩ := h2 (f st)
 refine ⟨M1 ++ M2, b1 ++ b2, by rw [hF, e2, e1]; simp, fun N r hN => ?_⟩
 rw [e1] at r2
 simp only at r2
 have hL : st.1 ++ (M1 ++ M2) ++ N = st.1 ++ M1 ++ (M2 ++ N) := by simp
 have hL2 : st.1 ++ (M1 ++ M2) ++ N = st.1 ++ M1 ++ M2 ++ N := by simp
 show A.pb (p (st.1 ++ (M1 ++ M2) ++ N)) (q (st.1 ++ (M1 ++ M2) ++ N)) (b1 ++ b2 ++ r) = _
 unfold A.pb
 rw [List.append_assoc b1 b2 r, hL, r1 (M2 ++ N) (b2 ++ r) (by rw [<- hL]; exact hN), <- hL, hL2]
 exact r2 N r (by rw [<- hL2]; exact hN)
theorem Wr.map {α β : Type} {f : WS -> WS} {p : List ByteArray -> Ps α} {x : α} (g : α -> β) (h : Wr f p x) : Wr f (fun L => A.pb (p L) fun v => A.pr (g v)) (g x) :=
 Wr.pb (q := fun _ v => A.pr (g v)) h (Wr.pr (g x)) (fun _ => rfl)
theorem Wr.congr {α : Type} {f : WS -> WS} {p q : List ByteArray -> Ps α} {x y : α} (h : Wr f p x) (hp : ∀ L l, q L l = p L l) (hx : y = x) : Wr f q y := by
 subst hx
 intro st
 obtain ⟨M, bs, e, r⟩ := h st
 exact ⟨M, bs, e, fun N r' hN => by rw [hp]; exact r N r' hN⟩
theorem wr_num {n : Int} {v m : Nat} (hv : n = v) (h : v <= m) (hm : m <= 9223372036854775807) : Wr (wNums [n]) (fun _ => pNum m) v := by
 subst hv
 intro st
 refine ⟨[], nb v, by simp [wNums, nums_one, cnt_nat], fun N r _ => ?_⟩
 have hd := dec_nb m r (v + 1) v 0 0 (by omega) (.inl rfl) (by have := nb_len9 (u := v) (by omega); omega)
 simp only [Nat.mul_zero, Nat.pow_zero, Nat.mul_one, Nat.zero_add] at hd
 rw [if_neg (by omega)] at hd
 show pNum m (nb v ++ r) = _
 unfold pNum
 rw [hd]
 simp
theorem fold_back {n : Int} (h1 : -2147483648 <= n) (h2 : n <= 2147483647) : foldN n <= 4294967295 /\ unfoldN (foldN n) = n := by
 unfold foldN unfoldN
 by_cases h : n < 0
 ·rw [if_pos h]
  obtain ⟨m, hm⟩ : ∃ m : Nat, n = -(m : Int) - 1 := ⟨(-n - 1).toNat, by omega⟩
  subst hm
  have e : (-2 * (-(m : Int) - 1) - 1).toNat = 2 * m + 1 := by omega
  rw [e, if_pos (by omega)]
  constructor <;> omega
 ·rw [if_neg h]
  obtain ⟨m, hm⟩ : ∃ m : Nat, n = (m : Int) := ⟨n.toNat, by omega⟩
  subst hm
  have e : (2 * (m : Int)).toNat = 2 * m := by omega
  rw [e, if_neg (by omega)]
  constructor <;> omega
theorem wr_int {n : Int} (h1 : -2147483648 <= n) (h2 : n <= 2147483647) : Wr (wInt n) (fun _ => pInt) n := by
 obtain ⟨hf, hu⟩ := fold_back h1 h2
 have := Wr.map unfoldN (wr_num (n := (foldN n : Int)) (v := foldN n) (m := 4294967295) rfl hf (by decide))
 rw [hu] at this
 intro st
 obtain ⟨M, bs, e, r⟩ := this st
 refine ⟨M, bs, ?_, r⟩
 rw [<- e]
 simp [wInt, wNums, nums_one, cnt_nat]
theorem putL_eq (L : List ByteArray) (s : ByteArray) : putL L s = L ++ (if s ∈ L then [] else [s]) := by
 unfold putL
 split <;> simp
theorem two_le {n : Nat} (h : n <= 65535) : two (n : Int) = [UInt8.ofNat (n % 256), UInt8.ofNat (n / 256)] := by
 unfold two twoN
 rw [cnt_nat, Nat.min_eq_left h]
theorem wr_text (s : ByteArray) : Wr (wText s) pText s := by
 intro st
 refine ⟨if s ∈ st.1 then [] else [s], two (pos st.1 s : Int), by simp only [wText, putL_eq], fun N r hN => ?_⟩
 rw [<- putL_eq] at hN ⊢
 have hm := putL_mem st.1 s
 have hp : pos st.1 s = pos (putL st.1 s) s := by
  unfold putL
  split
  ·rfl
  ·rename_i h
   rw [pos_new h, pos_not h]
 have hlt := pos_lt hm
 rw [List.length_append] at hN
 rw [hp, two_le (by omega)]
 have e1 : (UInt8.ofNat (pos (putL st.1 s) s % 256)).toNat = pos (putL st.1 s) s % 256 := by rw [UInt8.toNat_ofNat']; omega
 have e2 : (UInt8.ofNat (pos (putL st.1 s) s / 256)).toNat = pos (putL st.1 s) s / 256 := by rw [UInt8.toNat_ofNat']; omega
 show pText _ (_ :: _ :: r) = _
 unfold pText
 dsimp only
 rw [e1, e2, show pos (putL st.1 s) s % 256 + pos (putL st.1 s) s / 256 * 256 = pos (putL st.1 s) s by omega, if_neg (by rw [List.length_append]; omega)]
 have hg : (putL st.1 s ++ N).getD (pos (putL st.1 s) s) ⟨#[]⟩ = s := by
  rw [List.getD_eq_getElem?_getD, List.getElem?_append_left hlt, List.getElem?_eq_getElem hlt, pos_at hm]
  rfl
 rw [hg]
theorem wr_all {α : Type} {f : α -> WS -> WS} {p : List ByteArray -> Ps α} : ∀ l : List α, (∀ x ∈ l, Wr (f x) p x) -> Wr (wAll f l) (fun L => pMany (p L) l.length) l
 | [], _ => Wr.pr []
 | x :: l, h => by
  have ih := wr_all l (fun y hy => h y (by simp [hy]))
  exact Wr.pb (q := fun L x => A.pb (pMany (p L) l.length) fun xs => A.pr (x :: xs)) (h x (by simp)) (Wr.map (fun xs => x :: xs) ih) (fun _ => rfl)
theorem wr_list {α : Type} {f : α -> WS -> WS} {p : List ByteArray -> Ps α} {l : List α} {m : Nat} (h : ∀ x ∈ l, Wr (f x) p x) (hl : l.length <= m) (hm : m <= 9223372036854775807) : Wr (wList f l) (fun L => pList m (p L)) l :=
 Wr.pb (q := fun L n => pMany (p L) n) (wr_num rfl hl hm) (wr_all l h) (fun _ => rfl)
theorem wNums_two (a b : Int) (st : WS) : wNums [a, b] st = wNums [b] (wNums [a] st) := by
 simp [wNums, nums]
theorem wNums_three (a b c : Int) (st : WS) : wNums [a, b, c] st = wNums [c] (wNums [b] (wNums [a] st)) := by
 simp [wNums, nums]
end Go.Proofs.YtijnimjmimeefaaGreat.A
namespace Go.Proofs.YtijnimjmimeefaaGreat.D
open Go.RowKit
theorem parse_at {s : ByteArray} {ps : List Ty} {t : Ty} {ok : Bool} (h : parseR s.data.toList = (ps, t, ok)) (w : World) (hg : Glob w) (hs : s.size <= 4294967280) :
  Calls Tryz.prog 145 #[.string s] w fun e w' => ∃ v, e = .returned (.tuple #[v, tyv t, .bool ok]) /\ OwnT w' w.heap.size v ps /\ Below w.heap.size w w' := by
 refine (parse_any s w hg hs).mono fun e w' ⟨v, ps', t', ok', H, he, ho, hb⟩ => ?_
 have := H.out
 rw [h] at this
 simp only [Prod.mk.injEq] at this
 obtain ⟨rfl, rfl, rfl⟩ := this
 exact ⟨v, he, ho, hb⟩
theorem one_at {s : ByteArray} {t : Ty} {ok : Bool} (h : oneR s.data.toList = (t, ok)) (w : World) (hg : Glob w) (hs : s.size <= 4294967280) :
  Calls Tryz.prog 143 #[.string s] w fun e w' => e = .returned (.tuple #[tyv t, .bool ok]) /\ Below w.heap.size w w' := by
 refine (one_any s w hg hs).mono fun e w' ⟨he, hb⟩ => ⟨?_, hb⟩
 rw [h] at he
 exact he
def kb : ByteArray := ⟨#[40, 73, 76, 65, 59, 41, 86]⟩
def kts : List Ty := [(1, ⟨#[]⟩), (4, ⟨#[65]⟩)]
theorem k1 : parseR kb.data.toList = (kts, (5, ⟨#[]⟩), true) := by kernel_rfl
theorem k2 : parseR (⟨#[40, 86, 41, 86]⟩ : ByteArray).data.toList = ([], t0, false) := by kernel_rfl
theorem k3 : oneR (⟨#[83]⟩ : ByteArray).data.toList = ((2, ⟨#[]⟩), true) := by kernel_rfl
theorem k4 : nameB ⟨#[97, 95, 49]⟩ = true := by kernel_rfl
theorem k5 : nameB ⟨#[49, 97]⟩ = false := by kernel_rfl
theorem k6 : rightB 2 ⟨#[]⟩ = true := by kernel_rfl
theorem k7 : typeT 4 ⟨#[65]⟩ = ⟨#[76, 65, 59]⟩ := by kernel_rfl
theorem k8 : bx (ofL kts (5, ⟨#[]⟩)) = kb := by kernel_rfl
end Go.Proofs.YtijnimjmimeefaaGreat.D
namespace Go.Proofs.YtijnimjmimeefaaGreat.D
open Go.RowKit
theorem firstR_of {t : Ty} (h : rightB t.1 t.2 = true) (rest : List UInt8) : firstR (typeL t ++ rest) = (t, rest, true) := by
 obtain ⟨k, c⟩ := t
 unfold rightB at h
 by_cases h4 : k = 4
 ·subst h4
  simp only [if_true] at h
  have hb : c = bx c.data.toList := by rw [bx, Lib.mk_data]
  rw [hb, typeL_ref]
  show firstR (76 :: (c.data.toList ++ [59] ++ rest)) = _
  rw [firstR_cons, if_neg (by decide), if_neg (by decide), if_neg (by decide), if_neg (by decide), if_pos rfl]
  exact refR_hit (by simp) h
 ·rw [if_neg h4] at h
  simp only [Bool.and_eq_true, decide_eq_true_eq] at h
  have hc : c = bx [] := by
   refine toList_inj ?_
   rw [Lib.toList_data, Lib.toList_data, List.eq_nil_of_length_eq_zero (l := c.data.toList) (by rw [<- Lib.size_eq]; exact h.2)]
   rfl
  subst hc
  have hk : k = 1 ∨ k = 2 ∨ k = 3 ∨ k = 5 := by omega
  rcases hk with rfl | rfl | rfl | rfl <;> rfl
theorem oneR_of {t : Ty} (h : rightB t.1 t.2 = true) : oneR (typeL t) = (t, true) := by
 have := firstR_of h []
 rw [List.append_nil] at this
 unfold oneR
 rw [this]; rfl
theorem typeL_41 {t : Ty} (h : rightB t.1 t.2 = true) (rest : List UInt8) : Lib.hasPrefix (typeL t ++ rest) [41] = false := by
 cases hp : Lib.hasPrefix (typeL t ++ rest) [41] with
 | false => rfl
 | true =>
  have h1 := pre41 41 hp
  have h2 := firstR_of h rest
  rw [h1, firstR_cons, if_neg (by decide), if_neg (by decide), if_neg (by decide), if_neg (by decide), if_neg (by decide)] at h2
  simp at h2
theorem listR_of : ∀ (qs ps : List Ty) (n : Nat) (rest : List UInt8), (∀ q ∈ qs, rightB q.1 q.2 = true /\ ¬ q.1 = 5) -> ps.length + qs.length <= 8 -> (qs.flatMap typeL ++ 41 :: rest).length < n ->
  listR n ps (qs.flatMap typeL ++ 41 :: rest) = (ps ++ qs, rest, true)
 | [], ps, 0, rest, _, _, hn => absurd hn (Nat.not_lt_zero _)
 | [], ps, n + 1, rest, _, _, _ => by
  rw [List.append_nil]
  exact listR_yes
 | q :: qs, ps, 0, rest, _, _, hn => absurd hn (Nat.not_lt_zero _)
 | q :: qs, ps, n + 1, rest, hq, hl, hn => by
  have h1 := hq q (List.mem_cons_self ..)
  rw [List.flatMap_cons, List.append_assoc] at hn ⊢
  simp only [List.length_cons] at hl
  rw [listR_no (typeL_41 h1.1 _), firstR_of h1.1, if_neg (by simp [h1.2]; omega)]
  rw [listR_of qs _ n rest (fun x hx => hq x (List.mem_cons_of_mem _ hx)) (by simp; omega) (by have := typeL_pos h1.1; simp only [List.length_append, List.length_cons] at hn ⊢; omega)]
  simp
theorem parseR_of {ps : List Ty} {r : Ty} (hps : ∀ q ∈ ps, rightB q.1 q.2 = true /\ ¬ q.1 = 5) (hl : ps.length <= 8) (hr : rightB r.1 r.2 = true) : parseR (ofL ps r) = (ps, r, true) := by
 unfold ofL
 refine (parseR_yes _ _ (Nat.lt_succ_self _) (listR_of ps [] _ (typeL r) hps (by simpa using hl) (Nat.lt_succ_self _))).trans ?_
 rw [oneR_of hr]
 simp
end Go.Proofs.YtijnimjmimeefaaGreat.D
