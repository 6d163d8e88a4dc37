/- Texts that the proof is made of, joined. No condition. -/
import Derived.Test.YtijnimjmimeefaaGreatSK6
set_option linter.unusedVariables false
set_option linter.unusedSimpArgs false
namespace Go.Proofs.YtijnimjmimeefaaGreat.A
open Go.RowKit Go.Proofs.YtijnimjmimeefaaGreat.D Go.Proofs.YtijnimjmimeefaaGreat.O
theorem Src.err_ne {w : World} {C : Cx} {x : Nat} (h : Src w C (.error x)) : x ≠ 0 := by
 obtain ⟨⟨k, e, bey, _, _, _, h4⟩, _⟩ := h
 rcases h4 with ⟨_, rfl⟩ | ⟨_, _, h⟩
 ·decide
 ·exact h
def gF (f : Fld) : Prop := f.1.size ≤ 100000 ∧ f.2.1.2.size ≤ 100000
def gH (h : Hnd) : Prop := h.2.2.2.size ≤ 100000
def gI (x : Ins) : Prop := szI x ∧ okI x
def gM (m : Mth) : Prop := szM m ∧ wfM m
def gC (c : Cls) : Prop := szC c ∧ wfC c
def gS (s : ByteArray) : Prop := s.size ≤ 1000
def TookX {α : Type} (C : Cx) (P : Pv α) (Good : α → Prop) (p : Ps α) (s : St) (w : World) (r : Ending) (w' : World) : Prop :=
 ∃ vs x s', r = .returned (.agg vs.toArray) ∧ P (fun b => w.heap.size ≤ b) w' vs x ∧ Good x ∧ Took (adv p s) x s' ∧ Src w' C s' ∧ Fs C w w'
def TookB {α : Type} (C : Cx) (sz : Nat) (T : TypeId) (P : Pv α) (Good : α → Prop) (p : Ps α) (B : Nat) (xs : List α) (n : Nat) (s : St) (w : World) (r : Ending) (w' : World) : Prop :=
 ∃ v ys s', r = .returned v ∧ OwnX sz T P w' B v (xs ++ ys) ∧ (∀ y ∈ ys, Good y) ∧ ys.length ≤ n ∧ Took (adv (pMany p n) s) ys s' ∧ Src w' C s' ∧ Below 0 w w' ∧ ∀ b, b < B → b < w.heap.size → b ≠ C.rb → b ≠ C.sb → w'.heap[b]? = w.heap[b]?
def TookL {α : Type} (C : Cx) (sz : Nat) (T : TypeId) (P : Pv α) (Good : α → Prop) (p : Ps α) (m : Nat) (s : St) (w : World) (r : Ending) (w' : World) : Prop :=
 ∃ v ys s', r = .returned v ∧ OwnX sz T P w' w.heap.size v ys ∧ (∀ y ∈ ys, Good y) ∧ ys.length ≤ m ∧ Took (adv (pList m p) s) ys s' ∧ Src w' C s' ∧ Fs C w w'
theorem wp_appX {α : Type} {sz bytes : Nat} {T TS : TypeId} {z : Value} (hI : Inf T TS sz bytes z) {P : Pv α} (hP : MonoG P) (hS : Shape P sz) {w : World} {ops : Array Oper} {rest : List Oper} {o : Oper} {a : Act} {Q : Exit → Act → World → Prop} (hgd : o.guard = none) (s x : Operand)
  (ho : o.op = .call { callee := .builtin .append, args := #[s, x], argTypes := #[TS, TS] })
  (B : Nat) (v : Value) (xs : List α) (hs : a.eval s = v) (hown : OwnX sz T P w B v xs) (g c : Nat) (y : α) (vs : List Value) (hx : a.eval x = .slice (some ⟨g, 0, none⟩) 1 c) (hv : P (fun b => B ≤ b ∧ v.ownBlock ≠ some b) w vs y) (hc : CellsAt w g 0 vs)
  (hb : xs.length + 1 ≤ 1000000) (hbase : B ≤ w.heap.size)
  (h : ∀ v' w', OwnX sz T P w' B v' (xs ++ [y]) → w.grownBy w' v.ownBlock → (v'.ownBlock = v.ownBlock ∨ v'.ownBlock = some w.heap.size) → wpList Tryz.prog ops Q rest (a.put o.dst v') w') :
  wpList Tryz.prog ops Q (o :: rest) a w := by
 refine wpList_plain hgd fun K hK => ?_
 obtain ⟨v', w', hrun, g1, g2, g4⟩ := run_appX hI hP hS w B v xs [y] hown ⟨g, 0, none⟩ c (fun i u hu => by
  match i, hu with
  | 0, hu =>
   simp only [List.getElem?_cons_zero, Option.some.injEq] at hu
   subst hu
   refine ⟨vs, hv, fun j u hu => ?_⟩
   have := hc j u hu
   simp only [Nat.zero_mul, Nat.zero_add, D.add0] at this ⊢
   exact this) (by simpa using hb) hbase o.type
 unfold Oper.wp execOp
 simp only [ho, resolve, invoke, builtin, Sem.run_bind, Sem.run_pure, Result.andThen_ok, List.map_toArray, List.map_cons, List.map_nil, hs, hx]
 rw [show ([y] : List α).length = 1 from rfl] at hrun
 simp only [hrun]
 exact hK _ _ (h v' w' g1 g2 g4)
theorem inf_str : Inf 9 48 1 16 (.string ⟨#[]⟩) := ⟨by kernel_rfl, Tryz.underlying48, rfl, by decide, by decide⟩
theorem inf_fld : Inf 63 49 4 48 (.agg #[.string ⟨#[]⟩, .int .i64 0, .string ⟨#[]⟩, .bool false]) := ⟨by kernel_rfl, Tryz.underlying49, rfl, by decide, by decide⟩
theorem inf_ins : Inf 61 56 7 88 (.agg #[.int .i64 0, .int .i32 0, .int .i64 0, .string ⟨#[]⟩, .string ⟨#[]⟩, .string ⟨#[]⟩, .string ⟨#[]⟩]) := ⟨by kernel_rfl, Tryz.underlying56, rfl, by decide, by decide⟩
theorem inf_hnd : Inf 66 57 4 40 (.agg #[.int .i64 0, .int .i64 0, .int .i64 0, .string ⟨#[]⟩]) := ⟨by kernel_rfl, Tryz.underlying57, rfl, by decide, by decide⟩
theorem inf_mth : Inf 59 50 9 128 (.agg #[.string ⟨#[]⟩, .slice none 0 0, .int .i64 0, .string ⟨#[]⟩, .bool false, .bool false, .int .i64 0, .slice none 0 0, .slice none 0 0]) := ⟨by kernel_rfl, Tryz.underlying50, rfl, by decide, by decide⟩
theorem inf_cls : Inf 52 22 6 112 (.agg #[.string ⟨#[]⟩, .string ⟨#[]⟩, .slice none 0 0, .int .i64 0, .slice none 0 0, .slice none 0 0]) := ⟨by kernel_rfl, Tryz.underlying22, rfl, by decide, by decide⟩
theorem cells_next {w w' : World} {vs : List Value} (T : TypeId) (hw : w' = w.alloc (.cells vs.toArray T)) : CellsAt w' w.heap.size 0 vs := by
 subst hw
 intro j u hu
 simp [hu]
theorem Src.low {w : World} {C : Cx} {s : St} (h : Src w C s) : C.B ≤ C.rb ∧ C.rb < C.sb ∧ C.sb < C.top := by
 obtain ⟨⟨k, e, bey, h1, _⟩, _, h6, h7, _⟩ := h
 exact ⟨h1.1, h6, h7⟩
theorem glob_block {w w' : World} (h : Glob w) (hk : w'.heap[0]? = w.heap[0]?) : Glob w' := by
 obtain ⟨m, hm⟩ := h
 exact ⟨m, by rw [World.cell?_of_block (w := w) (a := ⟨0, 0, none⟩) hk]; exact hm⟩
theorem glob_lt {w : World} (h : Glob w) : 0 < w.heap.size := by
 obtain ⟨m, hm⟩ := h
 exact World.block_lt_of_cell? _ _ hm
theorem glob_kept {w w' : World} {C : Cx} {B : Nat} (h : Glob w) (hk : ∀ b, b < B → b < w.heap.size → b ≠ C.rb → b ≠ C.sb → w'.heap[b]? = w.heap[b]?) (hB0 : 0 < C.B) (hl : C.B ≤ C.rb ∧ C.rb < C.sb ∧ C.sb < C.top) (hT : C.top ≤ B) : Glob w' :=
 glob_block h (hk _ (by omega) (glob_lt h) (by omega) (by omega))
theorem glob_fs {w w' : World} {C : Cx} (h : Glob w) (hk : Fs C w w') (hB0 : 0 < C.B) (hl : C.B ≤ C.rb ∧ C.rb < C.sb ∧ C.sb < C.top) : Glob w' :=
 glob_block h (hk.2 _ (glob_lt h) (by simp; omega))
set_option maxHeartbeats 1000000 in
set_option maxRecDepth 100000 in
theorem behind_str (C : Cx) (htake : ∀ (s : St) (w : World), Src w C s → Glob w → Calls Tryz.prog 98 #[.pointer (some ⟨C.sb, 0, none⟩)] w (TookText C s w)) :
  ∀ (n : Nat) (z : Int) (xs : List ByteArray) (v : Value) (s : St) (B : Nat) (w : World), z = (n : Int) → Src w C s → Glob w → 0 < C.B → OwnX 1 9 (sP strC) w B v xs → C.top ≤ B → B ≤ w.heap.size → xs.length + n ≤ 100000 →
  Calls Tryz.prog 141 #[.pointer (some ⟨C.sb, 0, none⟩), v, .int .i64 z, .func (.func 98) #[] #[]] w (TookB C 1 9 (sP strC) gS (pText C.L) B xs n s w) := by
 intro n
 induction n with
 | zero =>
  intro z xs v s B w hz hs _ _ ho _ _ _
  subst hz
  have HO := Lib.hid ho
  clear ho
  go_enter Tryz.func141, Tryz.ntmps141
  go_wp2_with fail
  go_ret
  exact ⟨v, [], s, rfl, by rw [List.append_nil]; exact HO.out, fun _ h => by simp at h, Nat.le_refl _, adv_pr _ _, hs, Below.refl _ _, fun _ _ _ _ _ => rfl⟩
 | succ n ih =>
  intro z xs v s B w hz hs hg hB0 ho htop hB hlen
  have hzp : 0 < z ∧ z ≤ 100000 := by omega
  have hznz : (z == 0) = false := beq_eq_false_iff_ne.2 (by omega)
  have hz1 : z - 1 = (n : Int) := by omega
  have HZ := Lib.hid hz1
  have HO := Lib.hid ho
  have HI := Lib.hid ih
  clear hz hz1 ho ih
  cases s with
  | error x =>
   have hx : ((x : Int) != 0) = true := by have := hs.err_ne; rw [bne_iff_ne]; omega
   go_enter Tryz.func141, Tryz.ntmps141
   go_wp2_with fail
   refine (err_s C _ _ hs).mono ?_
   rintro r w' ⟨rfl, rfl⟩
   rw [show errN (.error x) = (x : Int) from rfl]
   go_wp2_with fail
   go_ret
   exact ⟨v, [], .error x, rfl, by rw [List.append_nil]; exact HO.out, fun _ h => by simp at h, Nat.zero_le _, took_err _, hs, Below.refl _ _, fun _ _ _ _ _ => rfl⟩
  | ok l =>
   go_enter Tryz.func141, Tryz.ntmps141
   go_wp2_with fail
   refine (err_s C _ _ hs).mono ?_
   rintro r w' ⟨rfl, rfl⟩
   rw [show errN (.ok l) = 0 from rfl]
   go_wp2_with fail
   refine (htake _ _ hs hg).mono ?_
   rintro r w1 ⟨x, sA, rfl, hgx, t1, hs1, hf1⟩
   have hvx : (sP strC) (fun b => w.heap.size ≤ b) w1 [.string x] x := rfl
   have hk1 : Keeps (fun b => B ≤ b) w w1 := (hf1.keeps hs).mono (fun b hb => by omega)
   have ho1 := HO.out.keeps (sP.grow _) hk1 hf1.size
   have hvo := HO.out.lt
   have hB1 : B ≤ w1.heap.size := Nat.le_trans hB hf1.size
   have hbA : Below w1.heap.size w1 (w1.alloc (.cells #[.string x] 9)) := (Below.refl _ _).alloc (Nat.le_refl _) _
   have hoA := ho1.keeps (sP.grow _) (.of_below hbA) hbA.size
   have hvA : (sP strC) (fun b => B ≤ b ∧ v.ownBlock ≠ some b) (w1.alloc (.cells #[.string x] 9)) [.string x] _ := (sP.grow _) _ _ _ _ _ _ hvx (fun b hb _ => ⟨Nat.le_trans hB hb, fun e => by have := (hvo b e).2; omega⟩) (.of_below hbA) hbA.size
   have hcA := cells_next (w := w1) (vs := [.string x]) 9 rfl
   have HT1 := Lib.hid t1
   have HVA := Lib.hid hvA
   have HOA := Lib.hid hoA
   have HCA := Lib.hid hcA
   have HGX := Lib.hid hgx
   clear t1 hvA hoA hcA hgx hvx ho1
   go_wp2_with (at_builtin; refine wp_appX inf_str (sP.grow _) shape_str rfl _ _ rfl B v xs rfl HOA.out w1.heap.size 1 _ _ rfl HVA.out HCA.out (by omega) (by have := hbA.size; omega) ?_)
   intro v2 w2 ho2 hg2 hl2
   have hsA := hs1.below hbA
   have hs2 : Src w2 C sA := hsA.kpt (.of_grown (S := v.ownBlock.toList) hg2 (fun g e => .inl (by rw [e]; simp))) (fun b hb hx => by
    have := (hvo b (by simpa using hx)).1
    omega)
   have hkA : Below 0 w w2 := (hf1.1.trans (hbA.mono (Nat.zero_le _))).trans ⟨hg2.os, hg2.tape, hg2.output, hg2.size, fun k hk => absurd hk (Nat.not_lt_zero k)⟩
   have hkept : ∀ b, b < B → b < w.heap.size → b ≠ C.rb → b ≠ C.sb → w2.heap[b]? = w.heap[b]? := fun b h1 h2 h3 h4 => by
    rw [hg2.block b (by have := hbA.size; have := hf1.size; omega) (fun e => by have := (hvo b e.symm).1; omega), hbA.block b (by have := hf1.size; omega)]
    exact hf1.2 b h2 (by simp; omega)
   have hgl2 : Glob w2 := glob_kept hg hkept hB0 hs.low htop
   have hB2 : B ≤ w2.heap.size := Nat.le_trans hB hkA.size
   have HO2 := Lib.hid ho2
   clear ho2 hg2 hl2
   go_wp2_with fail
   refine (HI.out (z - 1) (xs ++ [_]) v2 sA B w2 HZ.out hs2 hgl2 hB0 HO2.out htop hB2 (by rw [List.length_append]; simp; omega)).mono ?_
   rintro r w3 ⟨v3, ys, sC, rfl, g1, g2, gl, g3, g4, g5, g6⟩
   have HG1 := Lib.hid g1
   have HG3 := Lib.hid g3
   clear g1 g3
   go_wp2_with fail
   go_ret
   refine ⟨v3, _ :: ys, sC, rfl, by have := HG1.out; rwa [List.append_assoc] at this, ?_, by rw [List.length_cons]; omega, took_pb HT1.out (took_map (g := fun ys => _ :: ys) HG3.out), g4, hkA.trans g5, fun b h1 h2 h3 h4 => (g6 b h1 (Nat.lt_of_lt_of_le h2 hkA.size) h3 h4).trans (hkept b h1 h2 h3 h4)⟩
   intro y hy
   rcases List.mem_cons.1 hy with rfl | hy
   ·exact HGX.out
   ·exact g2 y hy
set_option maxHeartbeats 1000000 in
set_option maxRecDepth 100000 in
theorem list_str (C : Cx) (htake : ∀ (s : St) (w : World), Src w C s → Glob w → Calls Tryz.prog 98 #[.pointer (some ⟨C.sb, 0, none⟩)] w (TookText C s w)) (s : St) (m : Nat) (w : World) (hs : Src w C s) (hg : Glob w) (hB0 : 0 < C.B) (hm : m ≤ 10000) :
  Calls Tryz.prog 99 #[.pointer (some ⟨C.sb, 0, none⟩), .int .i64 m, .func (.func 98) #[] #[]] w (TookL C 1 9 (sP strC) gS (pText C.L) m s w) := by
 obtain ⟨q1, q2, c0, c1, f2⟩ := hs.cells
 go_enter Tryz.func99, Tryz.ntmps99
 go_wp2_with fail
 refine (num_s C s m _ _ hs rfl (by omega)).mono ?_
 rintro r w1 ⟨n, s1, rfl, hn, t1, hs1, hf1⟩
 have HT := Lib.hid t1
 have hg1 : Glob w1 := glob_fs hg hf1 hB0 hs.low
 clear t1
 go_wp2_with fail
 refine (behind_str C htake n _ [] _ s1 w.heap.size w1 rfl hs1 hg1 hB0 (OwnX.nil _ _ _ _ _) hs.top hf1.size (by simp; omega)).mono ?_
 rintro r w2 ⟨v, ys, s2, rfl, g1, g2, gl, g3, g4, g5, g6⟩
 have HG1 := Lib.hid g1
 have HG3 := Lib.hid g3
 clear g1 g3
 go_wp2_with fail
 go_ret
 refine ⟨v, ys, s2, rfl, HG1.out, g2, by omega, took_pb HT.out HG3.out, g4, hf1.1.trans g5, fun b h1 h2 => ?_⟩
 simp only [List.mem_cons, List.not_mem_nil, or_false, not_or] at h2
 exact (g6 b h1 (Nat.lt_of_lt_of_le h1 hf1.size) h2.1 h2.2).trans (hf1.2 b h1 (by simp; exact h2))
set_option maxHeartbeats 1000000 in
set_option maxRecDepth 100000 in
theorem behind_fld (C : Cx) (htake : ∀ (s : St) (w : World), Src w C s → Glob w → Calls Tryz.prog 101 #[.pointer (some ⟨C.sb, 0, none⟩)] w (TookX C (sP fldC) gF (pFld C.L) s w)) :
  ∀ (n : Nat) (z : Int) (xs : List Fld) (v : Value) (s : St) (B : Nat) (w : World), z = (n : Int) → Src w C s → Glob w → 0 < C.B → OwnX 4 63 (sP fldC) w B v xs → C.top ≤ B → B ≤ w.heap.size → xs.length + n ≤ 100000 →
  Calls Tryz.prog 142 #[.pointer (some ⟨C.sb, 0, none⟩), v, .int .i64 z, .func (.func 101) #[] #[]] w (TookB C 4 63 (sP fldC) gF (pFld C.L) B xs n s w) := by
 intro n
 induction n with
 | zero =>
  intro z xs v s B w hz hs _ _ ho _ _ _
  subst hz
  have HO := Lib.hid ho
  clear ho
  go_enter Tryz.func142, Tryz.ntmps142
  go_wp2_with fail
  go_ret
  exact ⟨v, [], s, rfl, by rw [List.append_nil]; exact HO.out, fun _ h => by simp at h, Nat.le_refl _, adv_pr _ _, hs, Below.refl _ _, fun _ _ _ _ _ => rfl⟩
 | succ n ih =>
  intro z xs v s B w hz hs hg hB0 ho htop hB hlen
  have hzp : 0 < z ∧ z ≤ 100000 := by omega
  have hznz : (z == 0) = false := beq_eq_false_iff_ne.2 (by omega)
  have hz1 : z - 1 = (n : Int) := by omega
  have HZ := Lib.hid hz1
  have HO := Lib.hid ho
  have HI := Lib.hid ih
  clear hz hz1 ho ih
  cases s with
  | error x =>
   have hx : ((x : Int) != 0) = true := by have := hs.err_ne; rw [bne_iff_ne]; omega
   go_enter Tryz.func142, Tryz.ntmps142
   go_wp2_with fail
   refine (err_s C _ _ hs).mono ?_
   rintro r w' ⟨rfl, rfl⟩
   rw [show errN (.error x) = (x : Int) from rfl]
   go_wp2_with fail
   go_ret
   exact ⟨v, [], .error x, rfl, by rw [List.append_nil]; exact HO.out, fun _ h => by simp at h, Nat.zero_le _, took_err _, hs, Below.refl _ _, fun _ _ _ _ _ => rfl⟩
  | ok l =>
   go_enter Tryz.func142, Tryz.ntmps142
   go_wp2_with fail
   refine (err_s C _ _ hs).mono ?_
   rintro r w' ⟨rfl, rfl⟩
   rw [show errN (.ok l) = 0 from rfl]
   go_wp2_with fail
   refine (htake _ _ hs hg).mono ?_
   rintro r w1 ⟨vs, x, sA, rfl, hvx, hgx, t1, hs1, hf1⟩
   have hvs : vs = fldC x := hvx
   subst hvs
   obtain ⟨s0, ⟨s1, s2⟩, s3⟩ := x
   rw [show fldC _ = [.string s0, .int .i64 s1, .string s2, .bool s3] from rfl] at hvx ⊢
   have hk1 : Keeps (fun b => B ≤ b) w w1 := (hf1.keeps hs).mono (fun b hb => by omega)
   have ho1 := HO.out.keeps (sP.grow _) hk1 hf1.size
   have hvo := HO.out.lt
   have hB1 : B ≤ w1.heap.size := Nat.le_trans hB hf1.size
   have hbA : Below w1.heap.size w1 (w1.alloc (.cells #[.string s0, .int .i64 s1, .string s2, .bool s3] 63)) := (Below.refl _ _).alloc (Nat.le_refl _) _
   have hoA := ho1.keeps (sP.grow _) (.of_below hbA) hbA.size
   have hvA : (sP fldC) (fun b => B ≤ b ∧ v.ownBlock ≠ some b) (w1.alloc (.cells #[.string s0, .int .i64 s1, .string s2, .bool s3] 63)) [.string s0, .int .i64 s1, .string s2, .bool s3] _ := (sP.grow _) _ _ _ _ _ _ hvx (fun b hb _ => ⟨Nat.le_trans hB hb, fun e => by have := (hvo b e).2; omega⟩) (.of_below hbA) hbA.size
   have hcA := cells_next (w := w1) (vs := [.string s0, .int .i64 s1, .string s2, .bool s3]) 63 rfl
   have HT1 := Lib.hid t1
   have HVA := Lib.hid hvA
   have HOA := Lib.hid hoA
   have HCA := Lib.hid hcA
   have HGX := Lib.hid hgx
   clear t1 hvA hoA hcA hgx hvx ho1
   go_wp2_with (at_builtin; refine wp_appX inf_fld (sP.grow _) shape_fld rfl _ _ rfl B v xs rfl HOA.out w1.heap.size 1 _ _ rfl HVA.out HCA.out (by omega) (by have := hbA.size; omega) ?_)
   intro v2 w2 ho2 hg2 hl2
   have hsA := hs1.below hbA
   have hs2 : Src w2 C sA := hsA.kpt (.of_grown (S := v.ownBlock.toList) hg2 (fun g e => .inl (by rw [e]; simp))) (fun b hb hx => by
    have := (hvo b (by simpa using hx)).1
    omega)
   have hkA : Below 0 w w2 := (hf1.1.trans (hbA.mono (Nat.zero_le _))).trans ⟨hg2.os, hg2.tape, hg2.output, hg2.size, fun k hk => absurd hk (Nat.not_lt_zero k)⟩
   have hkept : ∀ b, b < B → b < w.heap.size → b ≠ C.rb → b ≠ C.sb → w2.heap[b]? = w.heap[b]? := fun b h1 h2 h3 h4 => by
    rw [hg2.block b (by have := hbA.size; have := hf1.size; omega) (fun e => by have := (hvo b e.symm).1; omega), hbA.block b (by have := hf1.size; omega)]
    exact hf1.2 b h2 (by simp; omega)
   have hgl2 : Glob w2 := glob_kept hg hkept hB0 hs.low htop
   have hB2 : B ≤ w2.heap.size := Nat.le_trans hB hkA.size
   have HO2 := Lib.hid ho2
   clear ho2 hg2 hl2
   go_wp2_with fail
   refine (HI.out (z - 1) (xs ++ [_]) v2 sA B w2 HZ.out hs2 hgl2 hB0 HO2.out htop hB2 (by rw [List.length_append]; simp; omega)).mono ?_
   rintro r w3 ⟨v3, ys, sC, rfl, g1, g2, gl, g3, g4, g5, g6⟩
   have HG1 := Lib.hid g1
   have HG3 := Lib.hid g3
   clear g1 g3
   go_wp2_with fail
   go_ret
   refine ⟨v3, _ :: ys, sC, rfl, by have := HG1.out; rwa [List.append_assoc] at this, ?_, by rw [List.length_cons]; omega, took_pb HT1.out (took_map (g := fun ys => _ :: ys) HG3.out), g4, hkA.trans g5, fun b h1 h2 h3 h4 => (g6 b h1 (Nat.lt_of_lt_of_le h2 hkA.size) h3 h4).trans (hkept b h1 h2 h3 h4)⟩
   intro y hy
   rcases List.mem_cons.1 hy with rfl | hy
   ·exact HGX.out
   ·exact g2 y hy
set_option maxHeartbeats 1000000 in
set_option maxRecDepth 100000 in
theorem list_fld (C : Cx) (htake : ∀ (s : St) (w : World), Src w C s → Glob w → Calls Tryz.prog 101 #[.pointer (some ⟨C.sb, 0, none⟩)] w (TookX C (sP fldC) gF (pFld C.L) s w)) (s : St) (m : Nat) (w : World) (hs : Src w C s) (hg : Glob w) (hB0 : 0 < C.B) (hm : m ≤ 10000) :
  Calls Tryz.prog 100 #[.pointer (some ⟨C.sb, 0, none⟩), .int .i64 m, .func (.func 101) #[] #[]] w (TookL C 4 63 (sP fldC) gF (pFld C.L) m s w) := by
 obtain ⟨q1, q2, c0, c1, f2⟩ := hs.cells
 go_enter Tryz.func100, Tryz.ntmps100
 go_wp2_with fail
 refine (num_s C s m _ _ hs rfl (by omega)).mono ?_
 rintro r w1 ⟨n, s1, rfl, hn, t1, hs1, hf1⟩
 have HT := Lib.hid t1
 have hg1 : Glob w1 := glob_fs hg hf1 hB0 hs.low
 clear t1
 go_wp2_with fail
 refine (behind_fld C htake n _ [] _ s1 w.heap.size w1 rfl hs1 hg1 hB0 (OwnX.nil _ _ _ _ _) hs.top hf1.size (by simp; omega)).mono ?_
 rintro r w2 ⟨v, ys, s2, rfl, g1, g2, gl, g3, g4, g5, g6⟩
 have HG1 := Lib.hid g1
 have HG3 := Lib.hid g3
 clear g1 g3
 go_wp2_with fail
 go_ret
 refine ⟨v, ys, s2, rfl, HG1.out, g2, by omega, took_pb HT.out HG3.out, g4, hf1.1.trans g5, fun b h1 h2 => ?_⟩
 simp only [List.mem_cons, List.not_mem_nil, or_false, not_or] at h2
 exact (g6 b h1 (Nat.lt_of_lt_of_le h1 hf1.size) h2.1 h2.2).trans (hf1.2 b h1 (by simp; exact h2))
set_option maxHeartbeats 1000000 in
set_option maxRecDepth 100000 in
theorem behind_ins (C : Cx) (htake : ∀ (s : St) (w : World), Src w C s → Glob w → Calls Tryz.prog 147 #[.pointer (some ⟨C.sb, 0, none⟩)] w (TookX C (sP insC) gI (pIns C.L) s w)) :
  ∀ (n : Nat) (z : Int) (xs : List Ins) (v : Value) (s : St) (B : Nat) (w : World), z = (n : Int) → Src w C s → Glob w → 0 < C.B → OwnX 7 61 (sP insC) w B v xs → C.top ≤ B → B ≤ w.heap.size → xs.length + n ≤ 100000 →
  Calls Tryz.prog 181 #[.pointer (some ⟨C.sb, 0, none⟩), v, .int .i64 z, .func (.func 147) #[] #[]] w (TookB C 7 61 (sP insC) gI (pIns C.L) B xs n s w) := by
 intro n
 induction n with
 | zero =>
  intro z xs v s B w hz hs _ _ ho _ _ _
  subst hz
  have HO := Lib.hid ho
  clear ho
  go_enter Tryz.func181, Tryz.ntmps181
  go_wp2_with fail
  go_ret
  exact ⟨v, [], s, rfl, by rw [List.append_nil]; exact HO.out, fun _ h => by simp at h, Nat.le_refl _, adv_pr _ _, hs, Below.refl _ _, fun _ _ _ _ _ => rfl⟩
 | succ n ih =>
  intro z xs v s B w hz hs hg hB0 ho htop hB hlen
  have hzp : 0 < z ∧ z ≤ 100000 := by omega
  have hznz : (z == 0) = false := beq_eq_false_iff_ne.2 (by omega)
  have hz1 : z - 1 = (n : Int) := by omega
  have HZ := Lib.hid hz1
  have HO := Lib.hid ho
  have HI := Lib.hid ih
  clear hz hz1 ho ih
  cases s with
  | error x =>
   have hx : ((x : Int) != 0) = true := by have := hs.err_ne; rw [bne_iff_ne]; omega
   go_enter Tryz.func181, Tryz.ntmps181
   go_wp2_with fail
   refine (err_s C _ _ hs).mono ?_
   rintro r w' ⟨rfl, rfl⟩
   rw [show errN (.error x) = (x : Int) from rfl]
   go_wp2_with fail
   go_ret
   exact ⟨v, [], .error x, rfl, by rw [List.append_nil]; exact HO.out, fun _ h => by simp at h, Nat.zero_le _, took_err _, hs, Below.refl _ _, fun _ _ _ _ _ => rfl⟩
  | ok l =>
   go_enter Tryz.func181, Tryz.ntmps181
   go_wp2_with fail
   refine (err_s C _ _ hs).mono ?_
   rintro r w' ⟨rfl, rfl⟩
   rw [show errN (.ok l) = 0 from rfl]
   go_wp2_with fail
   refine (htake _ _ hs hg).mono ?_
   rintro r w1 ⟨vs, x, sA, rfl, hvx, hgx, t1, hs1, hf1⟩
   have hvs : vs = insC x := hvx
   subst hvs
   obtain ⟨s0, s1, s2, s3, s4, s5, s6⟩ := x
   rw [show insC _ = [.int .i64 s0, .int .i32 s1, .int .i64 s2, .string s3, .string s4, .string s5, .string s6] from rfl] at hvx ⊢
   have hk1 : Keeps (fun b => B ≤ b) w w1 := (hf1.keeps hs).mono (fun b hb => by omega)
   have ho1 := HO.out.keeps (sP.grow _) hk1 hf1.size
   have hvo := HO.out.lt
   have hB1 : B ≤ w1.heap.size := Nat.le_trans hB hf1.size
   have hbA : Below w1.heap.size w1 (w1.alloc (.cells #[.int .i64 s0, .int .i32 s1, .int .i64 s2, .string s3, .string s4, .string s5, .string s6] 61)) := (Below.refl _ _).alloc (Nat.le_refl _) _
   have hoA := ho1.keeps (sP.grow _) (.of_below hbA) hbA.size
   have hvA : (sP insC) (fun b => B ≤ b ∧ v.ownBlock ≠ some b) (w1.alloc (.cells #[.int .i64 s0, .int .i32 s1, .int .i64 s2, .string s3, .string s4, .string s5, .string s6] 61)) [.int .i64 s0, .int .i32 s1, .int .i64 s2, .string s3, .string s4, .string s5, .string s6] _ := (sP.grow _) _ _ _ _ _ _ hvx (fun b hb _ => ⟨Nat.le_trans hB hb, fun e => by have := (hvo b e).2; omega⟩) (.of_below hbA) hbA.size
   have hcA := cells_next (w := w1) (vs := [.int .i64 s0, .int .i32 s1, .int .i64 s2, .string s3, .string s4, .string s5, .string s6]) 61 rfl
   have HT1 := Lib.hid t1
   have HVA := Lib.hid hvA
   have HOA := Lib.hid hoA
   have HCA := Lib.hid hcA
   have HGX := Lib.hid hgx
   clear t1 hvA hoA hcA hgx hvx ho1
   go_wp2_with (at_builtin; refine wp_appX inf_ins (sP.grow _) shape_ins rfl _ _ rfl B v xs rfl HOA.out w1.heap.size 1 _ _ rfl HVA.out HCA.out (by omega) (by have := hbA.size; omega) ?_)
   intro v2 w2 ho2 hg2 hl2
   have hsA := hs1.below hbA
   have hs2 : Src w2 C sA := hsA.kpt (.of_grown (S := v.ownBlock.toList) hg2 (fun g e => .inl (by rw [e]; simp))) (fun b hb hx => by
    have := (hvo b (by simpa using hx)).1
    omega)
   have hkA : Below 0 w w2 := (hf1.1.trans (hbA.mono (Nat.zero_le _))).trans ⟨hg2.os, hg2.tape, hg2.output, hg2.size, fun k hk => absurd hk (Nat.not_lt_zero k)⟩
   have hkept : ∀ b, b < B → b < w.heap.size → b ≠ C.rb → b ≠ C.sb → w2.heap[b]? = w.heap[b]? := fun b h1 h2 h3 h4 => by
    rw [hg2.block b (by have := hbA.size; have := hf1.size; omega) (fun e => by have := (hvo b e.symm).1; omega), hbA.block b (by have := hf1.size; omega)]
    exact hf1.2 b h2 (by simp; omega)
   have hgl2 : Glob w2 := glob_kept hg hkept hB0 hs.low htop
   have hB2 : B ≤ w2.heap.size := Nat.le_trans hB hkA.size
   have HO2 := Lib.hid ho2
   clear ho2 hg2 hl2
   go_wp2_with fail
   refine (HI.out (z - 1) (xs ++ [_]) v2 sA B w2 HZ.out hs2 hgl2 hB0 HO2.out htop hB2 (by rw [List.length_append]; simp; omega)).mono ?_
   rintro r w3 ⟨v3, ys, sC, rfl, g1, g2, gl, g3, g4, g5, g6⟩
   have HG1 := Lib.hid g1
   have HG3 := Lib.hid g3
   clear g1 g3
   go_wp2_with fail
   go_ret
   refine ⟨v3, _ :: ys, sC, rfl, by have := HG1.out; rwa [List.append_assoc] at this, ?_, by rw [List.length_cons]; omega, took_pb HT1.out (took_map (g := fun ys => _ :: ys) HG3.out), g4, hkA.trans g5, fun b h1 h2 h3 h4 => (g6 b h1 (Nat.lt_of_lt_of_le h2 hkA.size) h3 h4).trans (hkept b h1 h2 h3 h4)⟩
   intro y hy
   rcases List.mem_cons.1 hy with rfl | hy
   ·exact HGX.out
   ·exact g2 y hy
set_option maxHeartbeats 1000000 in
set_option maxRecDepth 100000 in
theorem list_ins (C : Cx) (htake : ∀ (s : St) (w : World), Src w C s → Glob w → Calls Tryz.prog 147 #[.pointer (some ⟨C.sb, 0, none⟩)] w (TookX C (sP insC) gI (pIns C.L) s w)) (s : St) (m : Nat) (w : World) (hs : Src w C s) (hg : Glob w) (hB0 : 0 < C.B) (hm : m ≤ 10000) :
  Calls Tryz.prog 146 #[.pointer (some ⟨C.sb, 0, none⟩), .int .i64 m, .func (.func 147) #[] #[]] w (TookL C 7 61 (sP insC) gI (pIns C.L) m s w) := by
 obtain ⟨q1, q2, c0, c1, f2⟩ := hs.cells
 go_enter Tryz.func146, Tryz.ntmps146
 go_wp2_with fail
 refine (num_s C s m _ _ hs rfl (by omega)).mono ?_
 rintro r w1 ⟨n, s1, rfl, hn, t1, hs1, hf1⟩
 have HT := Lib.hid t1
 have hg1 : Glob w1 := glob_fs hg hf1 hB0 hs.low
 clear t1
 go_wp2_with fail
 refine (behind_ins C htake n _ [] _ s1 w.heap.size w1 rfl hs1 hg1 hB0 (OwnX.nil _ _ _ _ _) hs.top hf1.size (by simp; omega)).mono ?_
 rintro r w2 ⟨v, ys, s2, rfl, g1, g2, gl, g3, g4, g5, g6⟩
 have HG1 := Lib.hid g1
 have HG3 := Lib.hid g3
 clear g1 g3
 go_wp2_with fail
 go_ret
 refine ⟨v, ys, s2, rfl, HG1.out, g2, by omega, took_pb HT.out HG3.out, g4, hf1.1.trans g5, fun b h1 h2 => ?_⟩
 simp only [List.mem_cons, List.not_mem_nil, or_false, not_or] at h2
 exact (g6 b h1 (Nat.lt_of_lt_of_le h1 hf1.size) h2.1 h2.2).trans (hf1.2 b h1 (by simp; exact h2))
set_option maxHeartbeats 1000000 in
set_option maxRecDepth 100000 in
theorem behind_hnd (C : Cx) (htake : ∀ (s : St) (w : World), Src w C s → Glob w → Calls Tryz.prog 149 #[.pointer (some ⟨C.sb, 0, none⟩)] w (TookX C (sP hndC) gH (pHnd C.L) s w)) :
  ∀ (n : Nat) (z : Int) (xs : List Hnd) (v : Value) (s : St) (B : Nat) (w : World), z = (n : Int) → Src w C s → Glob w → 0 < C.B → OwnX 4 66 (sP hndC) w B v xs → C.top ≤ B → B ≤ w.heap.size → xs.length + n ≤ 100000 →
  Calls Tryz.prog 184 #[.pointer (some ⟨C.sb, 0, none⟩), v, .int .i64 z, .func (.func 149) #[] #[]] w (TookB C 4 66 (sP hndC) gH (pHnd C.L) B xs n s w) := by
 intro n
 induction n with
 | zero =>
  intro z xs v s B w hz hs _ _ ho _ _ _
  subst hz
  have HO := Lib.hid ho
  clear ho
  go_enter Tryz.func184, Tryz.ntmps184
  go_wp2_with fail
  go_ret
  exact ⟨v, [], s, rfl, by rw [List.append_nil]; exact HO.out, fun _ h => by simp at h, Nat.le_refl _, adv_pr _ _, hs, Below.refl _ _, fun _ _ _ _ _ => rfl⟩
 | succ n ih =>
  intro z xs v s B w hz hs hg hB0 ho htop hB hlen
  have hzp : 0 < z ∧ z ≤ 100000 := by omega
  have hznz : (z == 0) = false := beq_eq_false_iff_ne.2 (by omega)
  have hz1 : z - 1 = (n : Int) := by omega
  have HZ := Lib.hid hz1
  have HO := Lib.hid ho
  have HI := Lib.hid ih
  clear hz hz1 ho ih
  cases s with
  | error x =>
   have hx : ((x : Int) != 0) = true := by have := hs.err_ne; rw [bne_iff_ne]; omega
   go_enter Tryz.func184, Tryz.ntmps184
   go_wp2_with fail
   refine (err_s C _ _ hs).mono ?_
   rintro r w' ⟨rfl, rfl⟩
   rw [show errN (.error x) = (x : Int) from rfl]
   go_wp2_with fail
   go_ret
   exact ⟨v, [], .error x, rfl, by rw [List.append_nil]; exact HO.out, fun _ h => by simp at h, Nat.zero_le _, took_err _, hs, Below.refl _ _, fun _ _ _ _ _ => rfl⟩
  | ok l =>
   go_enter Tryz.func184, Tryz.ntmps184
   go_wp2_with fail
   refine (err_s C _ _ hs).mono ?_
   rintro r w' ⟨rfl, rfl⟩
   rw [show errN (.ok l) = 0 from rfl]
   go_wp2_with fail
   refine (htake _ _ hs hg).mono ?_
   rintro r w1 ⟨vs, x, sA, rfl, hvx, hgx, t1, hs1, hf1⟩
   have hvs : vs = hndC x := hvx
   subst hvs
   obtain ⟨s0, s1, s2, s3⟩ := x
   rw [show hndC _ = [.int .i64 s0, .int .i64 s1, .int .i64 s2, .string s3] from rfl] at hvx ⊢
   have hk1 : Keeps (fun b => B ≤ b) w w1 := (hf1.keeps hs).mono (fun b hb => by omega)
   have ho1 := HO.out.keeps (sP.grow _) hk1 hf1.size
   have hvo := HO.out.lt
   have hB1 : B ≤ w1.heap.size := Nat.le_trans hB hf1.size
   have hbA : Below w1.heap.size w1 (w1.alloc (.cells #[.int .i64 s0, .int .i64 s1, .int .i64 s2, .string s3] 66)) := (Below.refl _ _).alloc (Nat.le_refl _) _
   have hoA := ho1.keeps (sP.grow _) (.of_below hbA) hbA.size
   have hvA : (sP hndC) (fun b => B ≤ b ∧ v.ownBlock ≠ some b) (w1.alloc (.cells #[.int .i64 s0, .int .i64 s1, .int .i64 s2, .string s3] 66)) [.int .i64 s0, .int .i64 s1, .int .i64 s2, .string s3] _ := (sP.grow _) _ _ _ _ _ _ hvx (fun b hb _ => ⟨Nat.le_trans hB hb, fun e => by have := (hvo b e).2; omega⟩) (.of_below hbA) hbA.size
   have hcA := cells_next (w := w1) (vs := [.int .i64 s0, .int .i64 s1, .int .i64 s2, .string s3]) 66 rfl
   have HT1 := Lib.hid t1
   have HVA := Lib.hid hvA
   have HOA := Lib.hid hoA
   have HCA := Lib.hid hcA
   have HGX := Lib.hid hgx
   clear t1 hvA hoA hcA hgx hvx ho1
   go_wp2_with (at_builtin; refine wp_appX inf_hnd (sP.grow _) shape_hnd rfl _ _ rfl B v xs rfl HOA.out w1.heap.size 1 _ _ rfl HVA.out HCA.out (by omega) (by have := hbA.size; omega) ?_)
   intro v2 w2 ho2 hg2 hl2
   have hsA := hs1.below hbA
   have hs2 : Src w2 C sA := hsA.kpt (.of_grown (S := v.ownBlock.toList) hg2 (fun g e => .inl (by rw [e]; simp))) (fun b hb hx => by
    have := (hvo b (by simpa using hx)).1
    omega)
   have hkA : Below 0 w w2 := (hf1.1.trans (hbA.mono (Nat.zero_le _))).trans ⟨hg2.os, hg2.tape, hg2.output, hg2.size, fun k hk => absurd hk (Nat.not_lt_zero k)⟩
   have hkept : ∀ b, b < B → b < w.heap.size → b ≠ C.rb → b ≠ C.sb → w2.heap[b]? = w.heap[b]? := fun b h1 h2 h3 h4 => by
    rw [hg2.block b (by have := hbA.size; have := hf1.size; omega) (fun e => by have := (hvo b e.symm).1; omega), hbA.block b (by have := hf1.size; omega)]
    exact hf1.2 b h2 (by simp; omega)
   have hgl2 : Glob w2 := glob_kept hg hkept hB0 hs.low htop
   have hB2 : B ≤ w2.heap.size := Nat.le_trans hB hkA.size
   have HO2 := Lib.hid ho2
   clear ho2 hg2 hl2
   go_wp2_with fail
   refine (HI.out (z - 1) (xs ++ [_]) v2 sA B w2 HZ.out hs2 hgl2 hB0 HO2.out htop hB2 (by rw [List.length_append]; simp; omega)).mono ?_
   rintro r w3 ⟨v3, ys, sC, rfl, g1, g2, gl, g3, g4, g5, g6⟩
   have HG1 := Lib.hid g1
   have HG3 := Lib.hid g3
   clear g1 g3
   go_wp2_with fail
   go_ret
   refine ⟨v3, _ :: ys, sC, rfl, by have := HG1.out; rwa [List.append_assoc] at this, ?_, by rw [List.length_cons]; omega, took_pb HT1.out (took_map (g := fun ys => _ :: ys) HG3.out), g4, hkA.trans g5, fun b h1 h2 h3 h4 => (g6 b h1 (Nat.lt_of_lt_of_le h2 hkA.size) h3 h4).trans (hkept b h1 h2 h3 h4)⟩
   intro y hy
   rcases List.mem_cons.1 hy with rfl | hy
   ·exact HGX.out
   ·exact g2 y hy
set_option maxHeartbeats 1000000 in
set_option maxRecDepth 100000 in
theorem list_hnd (C : Cx) (htake : ∀ (s : St) (w : World), Src w C s → Glob w → Calls Tryz.prog 149 #[.pointer (some ⟨C.sb, 0, none⟩)] w (TookX C (sP hndC) gH (pHnd C.L) s w)) (s : St) (m : Nat) (w : World) (hs : Src w C s) (hg : Glob w) (hB0 : 0 < C.B) (hm : m ≤ 10000) :
  Calls Tryz.prog 148 #[.pointer (some ⟨C.sb, 0, none⟩), .int .i64 m, .func (.func 149) #[] #[]] w (TookL C 4 66 (sP hndC) gH (pHnd C.L) m s w) := by
 obtain ⟨q1, q2, c0, c1, f2⟩ := hs.cells
 go_enter Tryz.func148, Tryz.ntmps148
 go_wp2_with fail
 refine (num_s C s m _ _ hs rfl (by omega)).mono ?_
 rintro r w1 ⟨n, s1, rfl, hn, t1, hs1, hf1⟩
 have HT := Lib.hid t1
 have hg1 : Glob w1 := glob_fs hg hf1 hB0 hs.low
 clear t1
 go_wp2_with fail
 refine (behind_hnd C htake n _ [] _ s1 w.heap.size w1 rfl hs1 hg1 hB0 (OwnX.nil _ _ _ _ _) hs.top hf1.size (by simp; omega)).mono ?_
 rintro r w2 ⟨v, ys, s2, rfl, g1, g2, gl, g3, g4, g5, g6⟩
 have HG1 := Lib.hid g1
 have HG3 := Lib.hid g3
 clear g1 g3
 go_wp2_with fail
 go_ret
 refine ⟨v, ys, s2, rfl, HG1.out, g2, by omega, took_pb HT.out HG3.out, g4, hf1.1.trans g5, fun b h1 h2 => ?_⟩
 simp only [List.mem_cons, List.not_mem_nil, or_false, not_or] at h2
 exact (g6 b h1 (Nat.lt_of_lt_of_le h1 hf1.size) h2.1 h2.2).trans (hf1.2 b h1 (by simp; exact h2))
set_option maxHeartbeats 1000000 in
set_option maxRecDepth 100000 in
theorem behind_mth (C : Cx) (htake : ∀ (s : St) (w : World), Src w C s → Glob w → Calls Tryz.prog 103 #[.pointer (some ⟨C.sb, 0, none⟩)] w (TookX C mP gM (pMth C.L) s w)) :
  ∀ (n : Nat) (z : Int) (xs : List Mth) (v : Value) (s : St) (B : Nat) (w : World), z = (n : Int) → Src w C s → Glob w → 0 < C.B → OwnX 9 59 mP w B v xs → C.top ≤ B → B ≤ w.heap.size → xs.length + n ≤ 100000 →
  Calls Tryz.prog 144 #[.pointer (some ⟨C.sb, 0, none⟩), v, .int .i64 z, .func (.func 103) #[] #[]] w (TookB C 9 59 mP gM (pMth C.L) B xs n s w) := by
 intro n
 induction n with
 | zero =>
  intro z xs v s B w hz hs _ _ ho _ _ _
  subst hz
  have HO := Lib.hid ho
  clear ho
  go_enter Tryz.func144, Tryz.ntmps144
  go_wp2_with fail
  go_ret
  exact ⟨v, [], s, rfl, by rw [List.append_nil]; exact HO.out, fun _ h => by simp at h, Nat.le_refl _, adv_pr _ _, hs, Below.refl _ _, fun _ _ _ _ _ => rfl⟩
 | succ n ih =>
  intro z xs v s B w hz hs hg hB0 ho htop hB hlen
  have hzp : 0 < z ∧ z ≤ 100000 := by omega
  have hznz : (z == 0) = false := beq_eq_false_iff_ne.2 (by omega)
  have hz1 : z - 1 = (n : Int) := by omega
  have HZ := Lib.hid hz1
  have HO := Lib.hid ho
  have HI := Lib.hid ih
  clear hz hz1 ho ih
  cases s with
  | error x =>
   have hx : ((x : Int) != 0) = true := by have := hs.err_ne; rw [bne_iff_ne]; omega
   go_enter Tryz.func144, Tryz.ntmps144
   go_wp2_with fail
   refine (err_s C _ _ hs).mono ?_
   rintro r w' ⟨rfl, rfl⟩
   rw [show errN (.error x) = (x : Int) from rfl]
   go_wp2_with fail
   go_ret
   exact ⟨v, [], .error x, rfl, by rw [List.append_nil]; exact HO.out, fun _ h => by simp at h, Nat.zero_le _, took_err _, hs, Below.refl _ _, fun _ _ _ _ _ => rfl⟩
  | ok l =>
   go_enter Tryz.func144, Tryz.ntmps144
   go_wp2_with fail
   refine (err_s C _ _ hs).mono ?_
   rintro r w' ⟨rfl, rfl⟩
   rw [show errN (.ok l) = 0 from rfl]
   go_wp2_with fail
   refine (htake _ _ hs hg).mono ?_
   rintro r w1 ⟨vs, x, sA, rfl, hvx, hgx, t1, hs1, hf1⟩
   have hvx' := hvx
   obtain ⟨vp, vc, vh, rfl, hd0, hd1, hd2⟩ := hvx'
   obtain ⟨pvp, cvp, rfl, -⟩ := hd0.len
   obtain ⟨pvc, cvc, rfl, -⟩ := hd1.len
   obtain ⟨pvh, cvh, rfl, -⟩ := hd2.len
   clear hd0 hd1 hd2
   have hk1 : Keeps (fun b => B ≤ b) w w1 := (hf1.keeps hs).mono (fun b hb => by omega)
   have ho1 := HO.out.keeps mP.grow hk1 hf1.size
   have hvo := HO.out.lt
   have hB1 : B ≤ w1.heap.size := Nat.le_trans hB hf1.size
   have hbA : Below w1.heap.size w1 (w1.alloc (.cells #[.string x.name, .slice pvp x.params.length cvp, .int .i64 x.ret.1, .string x.ret.2, .bool x.st, .bool x.ab, .int .i64 x.locals, .slice pvc x.code.length cvc, .slice pvh x.hs.length cvh] 59)) := (Below.refl _ _).alloc (Nat.le_refl _) _
   have hoA := ho1.keeps mP.grow (.of_below hbA) hbA.size
   have hvA : mP (fun b => B ≤ b ∧ v.ownBlock ≠ some b) (w1.alloc (.cells #[.string x.name, .slice pvp x.params.length cvp, .int .i64 x.ret.1, .string x.ret.2, .bool x.st, .bool x.ab, .int .i64 x.locals, .slice pvc x.code.length cvc, .slice pvh x.hs.length cvh] 59)) [.string x.name, .slice pvp x.params.length cvp, .int .i64 x.ret.1, .string x.ret.2, .bool x.st, .bool x.ab, .int .i64 x.locals, .slice pvc x.code.length cvc, .slice pvh x.hs.length cvh] _ := mP.grow _ _ _ _ _ _ hvx (fun b hb _ => ⟨Nat.le_trans hB hb, fun e => by have := (hvo b e).2; omega⟩) (.of_below hbA) hbA.size
   have hcA := cells_next (w := w1) (vs := [.string x.name, .slice pvp x.params.length cvp, .int .i64 x.ret.1, .string x.ret.2, .bool x.st, .bool x.ab, .int .i64 x.locals, .slice pvc x.code.length cvc, .slice pvh x.hs.length cvh]) 59 rfl
   have HT1 := Lib.hid t1
   have HVA := Lib.hid hvA
   have HOA := Lib.hid hoA
   have HCA := Lib.hid hcA
   have HGX := Lib.hid hgx
   clear t1 hvA hoA hcA hgx hvx ho1
   go_wp2_with (at_builtin; refine wp_appX inf_mth mP.grow shape_mth rfl _ _ rfl B v xs rfl HOA.out w1.heap.size 1 _ _ rfl HVA.out HCA.out (by omega) (by have := hbA.size; omega) ?_)
   intro v2 w2 ho2 hg2 hl2
   have hsA := hs1.below hbA
   have hs2 : Src w2 C sA := hsA.kpt (.of_grown (S := v.ownBlock.toList) hg2 (fun g e => .inl (by rw [e]; simp))) (fun b hb hx => by
    have := (hvo b (by simpa using hx)).1
    omega)
   have hkA : Below 0 w w2 := (hf1.1.trans (hbA.mono (Nat.zero_le _))).trans ⟨hg2.os, hg2.tape, hg2.output, hg2.size, fun k hk => absurd hk (Nat.not_lt_zero k)⟩
   have hkept : ∀ b, b < B → b < w.heap.size → b ≠ C.rb → b ≠ C.sb → w2.heap[b]? = w.heap[b]? := fun b h1 h2 h3 h4 => by
    rw [hg2.block b (by have := hbA.size; have := hf1.size; omega) (fun e => by have := (hvo b e.symm).1; omega), hbA.block b (by have := hf1.size; omega)]
    exact hf1.2 b h2 (by simp; omega)
   have hgl2 : Glob w2 := glob_kept hg hkept hB0 hs.low htop
   have hB2 : B ≤ w2.heap.size := Nat.le_trans hB hkA.size
   have HO2 := Lib.hid ho2
   clear ho2 hg2 hl2
   go_wp2_with fail
   refine (HI.out (z - 1) (xs ++ [_]) v2 sA B w2 HZ.out hs2 hgl2 hB0 HO2.out htop hB2 (by rw [List.length_append]; simp; omega)).mono ?_
   rintro r w3 ⟨v3, ys, sC, rfl, g1, g2, gl, g3, g4, g5, g6⟩
   have HG1 := Lib.hid g1
   have HG3 := Lib.hid g3
   clear g1 g3
   go_wp2_with fail
   go_ret
   refine ⟨v3, _ :: ys, sC, rfl, by have := HG1.out; rwa [List.append_assoc] at this, ?_, by rw [List.length_cons]; omega, took_pb HT1.out (took_map (g := fun ys => _ :: ys) HG3.out), g4, hkA.trans g5, fun b h1 h2 h3 h4 => (g6 b h1 (Nat.lt_of_lt_of_le h2 hkA.size) h3 h4).trans (hkept b h1 h2 h3 h4)⟩
   intro y hy
   rcases List.mem_cons.1 hy with rfl | hy
   ·exact HGX.out
   ·exact g2 y hy
set_option maxHeartbeats 1000000 in
set_option maxRecDepth 100000 in
theorem list_mth (C : Cx) (htake : ∀ (s : St) (w : World), Src w C s → Glob w → Calls Tryz.prog 103 #[.pointer (some ⟨C.sb, 0, none⟩)] w (TookX C mP gM (pMth C.L) s w)) (s : St) (m : Nat) (w : World) (hs : Src w C s) (hg : Glob w) (hB0 : 0 < C.B) (hm : m ≤ 10000) :
  Calls Tryz.prog 102 #[.pointer (some ⟨C.sb, 0, none⟩), .int .i64 m, .func (.func 103) #[] #[]] w (TookL C 9 59 mP gM (pMth C.L) m s w) := by
 obtain ⟨q1, q2, c0, c1, f2⟩ := hs.cells
 go_enter Tryz.func102, Tryz.ntmps102
 go_wp2_with fail
 refine (num_s C s m _ _ hs rfl (by omega)).mono ?_
 rintro r w1 ⟨n, s1, rfl, hn, t1, hs1, hf1⟩
 have HT := Lib.hid t1
 have hg1 : Glob w1 := glob_fs hg hf1 hB0 hs.low
 clear t1
 go_wp2_with fail
 refine (behind_mth C htake n _ [] _ s1 w.heap.size w1 rfl hs1 hg1 hB0 (OwnX.nil _ _ _ _ _) hs.top hf1.size (by simp; omega)).mono ?_
 rintro r w2 ⟨v, ys, s2, rfl, g1, g2, gl, g3, g4, g5, g6⟩
 have HG1 := Lib.hid g1
 have HG3 := Lib.hid g3
 clear g1 g3
 go_wp2_with fail
 go_ret
 refine ⟨v, ys, s2, rfl, HG1.out, g2, by omega, took_pb HT.out HG3.out, g4, hf1.1.trans g5, fun b h1 h2 => ?_⟩
 simp only [List.mem_cons, List.not_mem_nil, or_false, not_or] at h2
 exact (g6 b h1 (Nat.lt_of_lt_of_le h1 hf1.size) h2.1 h2.2).trans (hf1.2 b h1 (by simp; exact h2))
set_option maxHeartbeats 1000000 in
set_option maxRecDepth 100000 in
theorem behind_cls (C : Cx) (htake : ∀ (s : St) (w : World), Src w C s → Glob w → Calls Tryz.prog 54 #[.pointer (some ⟨C.sb, 0, none⟩)] w (TookX C cP gC (pCls C.L) s w)) :
  ∀ (n : Nat) (z : Int) (xs : List Cls) (v : Value) (s : St) (B : Nat) (w : World), z = (n : Int) → Src w C s → Glob w → 0 < C.B → OwnX 6 52 cP w B v xs → C.top ≤ B → B ≤ w.heap.size → xs.length + n ≤ 100000 →
  Calls Tryz.prog 97 #[.pointer (some ⟨C.sb, 0, none⟩), v, .int .i64 z, .func (.func 54) #[] #[]] w (TookB C 6 52 cP gC (pCls C.L) B xs n s w) := by
 intro n
 induction n with
 | zero =>
  intro z xs v s B w hz hs _ _ ho _ _ _
  subst hz
  have HO := Lib.hid ho
  clear ho
  go_enter Tryz.func97, Tryz.ntmps97
  go_wp2_with fail
  go_ret
  exact ⟨v, [], s, rfl, by rw [List.append_nil]; exact HO.out, fun _ h => by simp at h, Nat.le_refl _, adv_pr _ _, hs, Below.refl _ _, fun _ _ _ _ _ => rfl⟩
 | succ n ih =>
  intro z xs v s B w hz hs hg hB0 ho htop hB hlen
  have hzp : 0 < z ∧ z ≤ 100000 := by omega
  have hznz : (z == 0) = false := beq_eq_false_iff_ne.2 (by omega)
  have hz1 : z - 1 = (n : Int) := by omega
  have HZ := Lib.hid hz1
  have HO := Lib.hid ho
  have HI := Lib.hid ih
  clear hz hz1 ho ih
  cases s with
  | error x =>
   have hx : ((x : Int) != 0) = true := by have := hs.err_ne; rw [bne_iff_ne]; omega
   go_enter Tryz.func97, Tryz.ntmps97
   go_wp2_with fail
   refine (err_s C _ _ hs).mono ?_
   rintro r w' ⟨rfl, rfl⟩
   rw [show errN (.error x) = (x : Int) from rfl]
   go_wp2_with fail
   go_ret
   exact ⟨v, [], .error x, rfl, by rw [List.append_nil]; exact HO.out, fun _ h => by simp at h, Nat.zero_le _, took_err _, hs, Below.refl _ _, fun _ _ _ _ _ => rfl⟩
  | ok l =>
   go_enter Tryz.func97, Tryz.ntmps97
   go_wp2_with fail
   refine (err_s C _ _ hs).mono ?_
   rintro r w' ⟨rfl, rfl⟩
   rw [show errN (.ok l) = 0 from rfl]
   go_wp2_with fail
   refine (htake _ _ hs hg).mono ?_
   rintro r w1 ⟨vs, x, sA, rfl, hvx, hgx, t1, hs1, hf1⟩
   have hvx' := hvx
   obtain ⟨vi, vf, vm, rfl, hd0, hd1, hd2⟩ := hvx'
   obtain ⟨pvi, cvi, rfl, -⟩ := hd0.len
   obtain ⟨pvf, cvf, rfl, -⟩ := hd1.len
   obtain ⟨pvm, cvm, rfl, -⟩ := hd2.len
   clear hd0 hd1 hd2
   have hk1 : Keeps (fun b => B ≤ b) w w1 := (hf1.keeps hs).mono (fun b hb => by omega)
   have ho1 := HO.out.keeps cP.grow hk1 hf1.size
   have hvo := HO.out.lt
   have hB1 : B ≤ w1.heap.size := Nat.le_trans hB hf1.size
   have hbA : Below w1.heap.size w1 (w1.alloc (.cells #[.string x.name, .string x.super, .slice pvi x.ifaces.length cvi, .int .i64 x.kind, .slice pvf x.fields.length cvf, .slice pvm x.methods.length cvm] 52)) := (Below.refl _ _).alloc (Nat.le_refl _) _
   have hoA := ho1.keeps cP.grow (.of_below hbA) hbA.size
   have hvA : cP (fun b => B ≤ b ∧ v.ownBlock ≠ some b) (w1.alloc (.cells #[.string x.name, .string x.super, .slice pvi x.ifaces.length cvi, .int .i64 x.kind, .slice pvf x.fields.length cvf, .slice pvm x.methods.length cvm] 52)) [.string x.name, .string x.super, .slice pvi x.ifaces.length cvi, .int .i64 x.kind, .slice pvf x.fields.length cvf, .slice pvm x.methods.length cvm] _ := cP.grow _ _ _ _ _ _ hvx (fun b hb _ => ⟨Nat.le_trans hB hb, fun e => by have := (hvo b e).2; omega⟩) (.of_below hbA) hbA.size
   have hcA := cells_next (w := w1) (vs := [.string x.name, .string x.super, .slice pvi x.ifaces.length cvi, .int .i64 x.kind, .slice pvf x.fields.length cvf, .slice pvm x.methods.length cvm]) 52 rfl
   have HT1 := Lib.hid t1
   have HVA := Lib.hid hvA
   have HOA := Lib.hid hoA
   have HCA := Lib.hid hcA
   have HGX := Lib.hid hgx
   clear t1 hvA hoA hcA hgx hvx ho1
   go_wp2_with (at_builtin; refine wp_appX inf_cls cP.grow shape_cls rfl _ _ rfl B v xs rfl HOA.out w1.heap.size 1 _ _ rfl HVA.out HCA.out (by omega) (by have := hbA.size; omega) ?_)
   intro v2 w2 ho2 hg2 hl2
   have hsA := hs1.below hbA
   have hs2 : Src w2 C sA := hsA.kpt (.of_grown (S := v.ownBlock.toList) hg2 (fun g e => .inl (by rw [e]; simp))) (fun b hb hx => by
    have := (hvo b (by simpa using hx)).1
    omega)
   have hkA : Below 0 w w2 := (hf1.1.trans (hbA.mono (Nat.zero_le _))).trans ⟨hg2.os, hg2.tape, hg2.output, hg2.size, fun k hk => absurd hk (Nat.not_lt_zero k)⟩
   have hkept : ∀ b, b < B → b < w.heap.size → b ≠ C.rb → b ≠ C.sb → w2.heap[b]? = w.heap[b]? := fun b h1 h2 h3 h4 => by
    rw [hg2.block b (by have := hbA.size; have := hf1.size; omega) (fun e => by have := (hvo b e.symm).1; omega), hbA.block b (by have := hf1.size; omega)]
    exact hf1.2 b h2 (by simp; omega)
   have hgl2 : Glob w2 := glob_kept hg hkept hB0 hs.low htop
   have hB2 : B ≤ w2.heap.size := Nat.le_trans hB hkA.size
   have HO2 := Lib.hid ho2
   clear ho2 hg2 hl2
   go_wp2_with fail
   refine (HI.out (z - 1) (xs ++ [_]) v2 sA B w2 HZ.out hs2 hgl2 hB0 HO2.out htop hB2 (by rw [List.length_append]; simp; omega)).mono ?_
   rintro r w3 ⟨v3, ys, sC, rfl, g1, g2, gl, g3, g4, g5, g6⟩
   have HG1 := Lib.hid g1
   have HG3 := Lib.hid g3
   clear g1 g3
   go_wp2_with fail
   go_ret
   refine ⟨v3, _ :: ys, sC, rfl, by have := HG1.out; rwa [List.append_assoc] at this, ?_, by rw [List.length_cons]; omega, took_pb HT1.out (took_map (g := fun ys => _ :: ys) HG3.out), g4, hkA.trans g5, fun b h1 h2 h3 h4 => (g6 b h1 (Nat.lt_of_lt_of_le h2 hkA.size) h3 h4).trans (hkept b h1 h2 h3 h4)⟩
   intro y hy
   rcases List.mem_cons.1 hy with rfl | hy
   ·exact HGX.out
   ·exact g2 y hy
set_option maxHeartbeats 1000000 in
set_option maxRecDepth 100000 in
theorem list_cls (C : Cx) (htake : ∀ (s : St) (w : World), Src w C s → Glob w → Calls Tryz.prog 54 #[.pointer (some ⟨C.sb, 0, none⟩)] w (TookX C cP gC (pCls C.L) s w)) (s : St) (m : Nat) (w : World) (hs : Src w C s) (hg : Glob w) (hB0 : 0 < C.B) (hm : m ≤ 10000) :
  Calls Tryz.prog 53 #[.pointer (some ⟨C.sb, 0, none⟩), .int .i64 m, .func (.func 54) #[] #[]] w (TookL C 6 52 cP gC (pCls C.L) m s w) := by
 obtain ⟨q1, q2, c0, c1, f2⟩ := hs.cells
 go_enter Tryz.func53, Tryz.ntmps53
 go_wp2_with fail
 refine (num_s C s m _ _ hs rfl (by omega)).mono ?_
 rintro r w1 ⟨n, s1, rfl, hn, t1, hs1, hf1⟩
 have HT := Lib.hid t1
 have hg1 : Glob w1 := glob_fs hg hf1 hB0 hs.low
 clear t1
 go_wp2_with fail
 refine (behind_cls C htake n _ [] _ s1 w.heap.size w1 rfl hs1 hg1 hB0 (OwnX.nil _ _ _ _ _) hs.top hf1.size (by simp; omega)).mono ?_
 rintro r w2 ⟨v, ys, s2, rfl, g1, g2, gl, g3, g4, g5, g6⟩
 have HG1 := Lib.hid g1
 have HG3 := Lib.hid g3
 clear g1 g3
 go_wp2_with fail
 go_ret
 refine ⟨v, ys, s2, rfl, HG1.out, g2, by omega, took_pb HT.out HG3.out, g4, hf1.1.trans g5, fun b h1 h2 => ?_⟩
 simp only [List.mem_cons, List.not_mem_nil, or_false, not_or] at h2
 exact (g6 b h1 (Nat.lt_of_lt_of_le h1 hf1.size) h2.1 h2.2).trans (hf1.2 b h1 (by simp; exact h2))
end Go.Proofs.YtijnimjmimeefaaGreat.A
