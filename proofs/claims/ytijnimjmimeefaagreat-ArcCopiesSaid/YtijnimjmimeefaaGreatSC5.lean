/- Texts that the proof is made of, joined. No condition. -/
import Derived.Test.YtijnimjmimeefaaGreatSC4
import Derived.Test.YtijnimjmimeefaaGreatSC3
import Derived.IntWalk
import Derived.Test.YtijnimjmimeefaaGreatSCH
set_option linter.unusedVariables false
set_option linter.unusedSimpArgs false
set_option maxRecDepth 100000
set_option maxHeartbeats 16000000
namespace Go.Proofs.YtijnimjmimeefaaGreat.A
open Go.RowKit Go.Proofs.YtijnimjmimeefaaGreat.D Go.Proofs.YtijnimjmimeefaaGreat.O
theorem Src.err_ne {w : World} {C : Cx} {x : Nat} (h : Src w C (.error x)) : x ≠ 0 := by
 obtain ⟨⟨k, e, bey, _, _, _, h4⟩, _⟩ := h
 rcases h4 with ⟨_, rfl⟩ | ⟨_, _, h⟩
 ·decide
 ·exact h
def gF (f : Fld) : Prop := f.1.size <= 100000 /\ f.2.1.2.size <= 100000
def gH (h : Hnd) : Prop := h.2.2.2.size <= 100000
def gI (x : Ins) : Prop := szI x /\ okI x
def gM (m : Mth) : Prop := szM m /\ wfM m
def gC (c : Cls) : Prop := szC c /\ wfC c
def gS (s : ByteArray) : Prop := s.size <= 1000
def TookX {α : Type} (C : Cx) (P : Pv α) (Good : α -> Prop) (p : Ps α) (s : St) (w : World) (r : Ending) (w' : World) : Prop :=
 ∃ vs x s', r = .returned (.agg vs.toArray) /\ P (fun b => w.heap.size <= b) w' vs x /\ Good x /\ Took (adv p s) x s' /\ Src w' C s' /\ Fs C w w'
def TookB {α : Type} (C : Cx) (sz : Nat) (T : TypeId) (P : Pv α) (Good : α -> Prop) (p : Ps α) (B : Nat) (xs : List α) (n : Nat) (s : St) (w : World) (r : Ending) (w' : World) : Prop :=
 ∃ v ys s', r = .returned v /\ OwnX sz T P w' B v (xs ++ ys) /\ (∀ y ∈ ys, Good y) /\ ys.length <= n /\ Took (adv (pMany p n) s) ys s' /\ Src w' C s' /\ Below 0 w w' /\ ∀ b, b < B -> b < w.heap.size -> b ≠ C.rb -> b ≠ C.sb -> w'.heap[b]? = w.heap[b]?
def TookL {α : Type} (C : Cx) (sz : Nat) (T : TypeId) (P : Pv α) (Good : α -> Prop) (p : Ps α) (m : Nat) (s : St) (w : World) (r : Ending) (w' : World) : Prop :=
 ∃ v ys s', r = .returned v /\ OwnX sz T P w' w.heap.size v ys /\ (∀ y ∈ ys, Good y) /\ ys.length <= m /\ Took (adv (pList m p) s) ys s' /\ Src w' C s' /\ Fs C w w'
theorem wp_appX {α : Type} {sz bytes : Nat} {T TS : TypeId} {z : Value} (hI : Inf T TS sz bytes z) {P : Pv α} (hP : MonoG P) (hS : Shape P sz) {w : World} {ops : Array Oper} {rest : List Oper} {o : Oper} {a : Act} {Q : Exit -> Act -> World -> Prop} (hgd : o.guard = none) (s x : Operand)
  (ho : o.op = .call { callee := .builtin .append, args := #[s, x], argTypes := #[TS, TS] })
  (B : Nat) (v : Value) (xs : List α) (hs : a.eval s = v) (hown : OwnX sz T P w B v xs) (g c : Nat) (y : α) (vs : List Value) (hx : a.eval x = .slice (some ⟨g, 0, none⟩) 1 c) (hv : P (fun b => B <= b /\ v.ownBlock ≠ some b) w vs y) (hc : CellsAt w g 0 vs)
  (hb : xs.length + 1 <= 1000000) (hbase : B <= w.heap.size)
  (h : ∀ v' w', OwnX sz T P w' B v' (xs ++ [y]) -> w.grownBy w' v.ownBlock -> (v'.ownBlock = v.ownBlock ∨ v'.ownBlock = some w.heap.size) -> wpList Tryz.prog ops Q rest (a.put o.dst v') w') :
  wpList Tryz.prog ops Q (o :: rest) a w := by
 refine wpList_plain hgd fun K hK => ?_
 obtain ⟨v', w', hrun, g1, g2, g4⟩ := run_appX hI hP hS w B v xs [y] hown ⟨g, 0, none⟩ c (fun i u hu => by
  match i, hu with
  | 0, hu =>
   simp only [List.getElem?_cons_zero, Option.some.injEq] at hu
   subst hu
   refine ⟨vs, hv, fun j u hu => ?_⟩
   have := hc j u hu
   simp only [Nat.zero_mul, Nat.zero_add, D.add0] at this ⊢
   exact this) (by simpa using hb) hbase o.type
 unfold Oper.wp execOp
 simp only [ho, resolve, invoke, builtin, Sem.run_bind, Sem.run_pure, Result.andThen_ok, List.map_toArray, List.map_cons, List.map_nil, hs, hx]
 rw [show ([y] : List α).length = 1 from rfl] at hrun
 simp only [hrun]
 exact hK _ _ (h v' w' g1 g2 g4)
theorem inf_str : Inf 9 48 1 16 (.string ⟨#[]⟩) := ⟨by kernel_rfl, Tryz.underlying48, rfl, by decide, by decide⟩
theorem inf_fld : Inf 63 49 4 48 (.agg #[.string ⟨#[]⟩, .int .i64 0, .string ⟨#[]⟩, .bool false]) := ⟨by kernel_rfl, Tryz.underlying49, rfl, by decide, by decide⟩
theorem inf_ins : Inf 61 56 7 88 (.agg #[.int .i64 0, .int .i32 0, .int .i64 0, .string ⟨#[]⟩, .string ⟨#[]⟩, .string ⟨#[]⟩, .string ⟨#[]⟩]) := ⟨by kernel_rfl, Tryz.underlying56, rfl, by decide, by decide⟩
theorem inf_hnd : Inf 66 57 4 40 (.agg #[.int .i64 0, .int .i64 0, .int .i64 0, .string ⟨#[]⟩]) := ⟨by kernel_rfl, Tryz.underlying57, rfl, by decide, by decide⟩
theorem inf_mth : Inf 59 50 9 128 (.agg #[.string ⟨#[]⟩, .slice none 0 0, .int .i64 0, .string ⟨#[]⟩, .bool false, .bool false, .int .i64 0, .slice none 0 0, .slice none 0 0]) := ⟨by kernel_rfl, Tryz.underlying50, rfl, by decide, by decide⟩
theorem inf_cls : Inf 52 22 6 112 (.agg #[.string ⟨#[]⟩, .string ⟨#[]⟩, .slice none 0 0, .int .i64 0, .slice none 0 0, .slice none 0 0]) := ⟨by kernel_rfl, Tryz.underlying22, rfl, by decide, by decide⟩
theorem cells_next {w w' : World} {vs : List Value} (T : TypeId) (hw : w' = w.alloc (.cells vs.toArray T)) : CellsAt w' w.heap.size 0 vs := by
 subst hw
 intro j u hu
 simp [hu]
theorem Src.low {w : World} {C : Cx} {s : St} (h : Src w C s) : C.B <= C.rb /\ C.rb < C.sb /\ C.sb < C.top := by
 obtain ⟨⟨k, e, bey, h1, _⟩, _, h6, h7, _⟩ := h
 exact ⟨h1.1, h6, h7⟩
theorem glob_block {w w' : World} (h : Glob w) (hk : w'.heap[0]? = w.heap[0]?) : Glob w' := by
 obtain ⟨m, hm⟩ := h
 exact ⟨m, by rw [World.cell?_of_block (w := w) (a := ⟨0, 0, none⟩) hk]; exact hm⟩
theorem glob_lt {w : World} (h : Glob w) : 0 < w.heap.size := by
 obtain ⟨m, hm⟩ := h
 exact World.block_lt_of_cell? _ _ hm
theorem glob_kept {w w' : World} {C : Cx} {B : Nat} (h : Glob w) (hk : ∀ b, b < B -> b < w.heap.size -> b ≠ C.rb -> b ≠ C.sb -> w'.heap[b]? = w.heap[b]?) (hB0 : 0 < C.B) (hl : C.B <= C.rb /\ C.rb < C.sb /\ C.sb < C.top) (hT : C.top <= B) : Glob w' :=
 glob_block h (hk _ (by omega) (glob_lt h) (by omega) (by omega))
theorem glob_fs {w w' : World} {C : Cx} (h : Glob w) (hk : Fs C w w') (hB0 : 0 < C.B) (hl : C.B <= C.rb /\ C.rb < C.sb /\ C.sb < C.top) : Glob w' :=
 glob_block h (hk.2 _ (glob_lt h) (by simp; omega))
theorem behind_str (C : Cx) (htake : ∀ (s : St) (w : World), Src w C s -> Glob w -> Calls Tryz.prog 98 #[.pointer (some ⟨C.sb, 0, none⟩)] w (TookText C s w)) :
  ∀ (n : Nat) (z : Int) (xs : List ByteArray) (v : Value) (s : St) (B : Nat) (w : World), z = (n : Int) -> Src w C s -> Glob w -> 0 < C.B -> OwnX 1 9 (sP strC) w B v xs -> C.top <= B -> B <= w.heap.size -> xs.length + n <= 100000 ->
  Calls Tryz.prog 141 #[.pointer (some ⟨C.sb, 0, none⟩), v, .int .i64 z, .func (.func 98) #[] #[]] w (TookB C 1 9 (sP strC) gS (pText C.L) B xs n s w) := by
 intro n
 induction n with
 | zero =>
  intro z xs v s B w hz hs _ _ ho _ _ _
  subst hz
  have HO := hid ho
  clear ho
  go_enter Tryz.func141, Tryz.ntmps141
  go_wp2_with fail
  go_ret
  exact ⟨v, [], s, rfl, by rw [List.append_nil]; exact HO.out, fun _ h => by simp at h, Nat.le_refl _, adv_pr _ _, hs, Below.refl _ _, fun _ _ _ _ _ => rfl⟩
 | succ n ih =>
  intro z xs v s B w hz hs hg hB0 ho htop hB hlen
  have hzp : 0 < z /\ z <= 100000 := by omega
  have hznz : (z == 0) = false := beq_eq_false_iff_ne.2 (by omega)
  have hz1 : z - 1 = (n : Int) := by omega
  have HZ := hid hz1
  have HO := hid ho
  have HI := hid ih
  clear hz hz1 ho ih
  cases s with
  | error x =>
   have hx : ((x : Int) != 0) = true := by have := hs.err_ne; rw [bne_iff_ne]; omega
   go_enter Tryz.func141, Tryz.ntmps141
   go_wp2_with fail
   refine (err_s C _ _ hs).mono ?_
   rintro r w' ⟨rfl, rfl⟩
   rw [show errN (.error x) = (x : Int) from rfl]
   go_wp2_with fail
   go_ret
   exact ⟨v, [], .error x, rfl, by rw [List.append_nil]; exact HO.out, fun _ h => by simp at h, Nat.zero_le _, took_err _, hs, Below.refl _ _, fun _ _ _ _ _ => rfl⟩
  | ok l =>
   go_enter Tryz.func141, Tryz.ntmps141
   go_wp2_with fail
   refine (err_s C _ _ hs).mono ?_
   rintro r w' ⟨rfl, rfl⟩
   rw [show errN (.ok l) = 0 from rfl]
   go_wp2_with fail
   refine (htake _ _ hs hg).mono ?_
   rintro r w1 ⟨x, sA, rfl, hgx, t1, hs1, hf1⟩
   have hvx : (sP strC) (fun b => w.heap.size <= b) w1 [.string x] x := rfl
   have hk1 : Keeps (fun b => B <= b) w w1 := (hf1.keeps hs).mono (fun b hb => by omega)
   have ho1 := HO.out.keeps (sP.grow _) hk1 hf1.size
   have hvo := HO.out.lt
   have hB1 : B <= w1.heap.size := Nat.le_trans hB hf1.size
   have hbA : Below w1.heap.size w1 (w1.alloc (.cells #[.string x] 9)) := (Below.refl _ _).alloc (Nat.le_refl _) _
   have hoA := ho1.keeps (sP.grow _) (.of_below hbA) hbA.size
   have hvA : (sP strC) (fun b => B <= b /\ v.ownBlock ≠ some b) (w1.alloc (.cells #[.string x] 9)) [.string x] _ := (sP.grow _) _ _ _ _ _ _ hvx (fun b hb _ => ⟨Nat.le_trans hB hb, fun e => by have := (hvo b e).2; omega⟩) (.of_below hbA) hbA.size
   have hcA := cells_next (w := w1) (vs := [.string x]) 9 rfl
   have HT1 := hid t1
   have HVA := hid hvA
   have HOA := hid hoA
   have HCA := hid hcA
   have HGX := hid hgx
   clear t1 hvA hoA hcA hgx hvx ho1
   go_wp2_with (at_builtin; refine wp_appX inf_str (sP.grow _) shape_str rfl _ _ rfl B v xs rfl HOA.out w1.heap.size 1 _ _ rfl HVA.out HCA.out (by omega) (by have := hbA.size; omega) ?_)
   intro v2 w2 ho2 hg2 hl2
   have hsA := hs1.below hbA
   have hs2 : Src w2 C sA := hsA.kpt (.of_grown (S := v.ownBlock.toList) hg2 (fun g e => .inl (by rw [e]; simp))) (fun b hb hx => by
    have := (hvo b (by simpa using hx)).1
    omega)
   have hkA : Below 0 w w2 := (hf1.1.trans (hbA.mono (Nat.zero_le _))).trans ⟨hg2.os, hg2.tape, hg2.output, hg2.size, fun k hk => absurd hk (Nat.not_lt_zero k)⟩
   have hkept : ∀ b, b < B -> b < w.heap.size -> b ≠ C.rb -> b ≠ C.sb -> w2.heap[b]? = w.heap[b]? := fun b h1 h2 h3 h4 => by
    rw [hg2.block b (by have := hbA.size; have := hf1.size; omega) (fun e => by have := (hvo b e.symm).1; omega), hbA.block b (by have := hf1.size; omega)]
    exact hf1.2 b h2 (by simp; omega)
   have hgl2 : Glob w2 := glob_kept hg hkept hB0 hs.low htop
   have hB2 : B <= w2.heap.size := Nat.le_trans hB hkA.size
   have HO2 := hid ho2
   clear ho2 hg2 hl2
   go_wp2_with fail
   refine (HI.out (z - 1) (xs ++ [_]) v2 sA B w2 HZ.out hs2 hgl2 hB0 HO2.out htop hB2 (by rw [List.length_append]; simp; omega)).mono ?_
   rintro r w3 ⟨v3, ys, sC, rfl, g1, g2, gl, g3, g4, g5, g6⟩
   have HG1 := hid g1
   have HG3 := hid g3
   clear g1 g3
   go_wp2_with fail
   go_ret
   refine ⟨v3, _ :: ys, sC, rfl, by have := HG1.out; rwa [List.append_assoc] at this, ?_, by rw [List.length_cons]; omega, took_pb HT1.out (took_map (g := fun ys => _ :: ys) HG3.out), g4, hkA.trans g5, fun b h1 h2 h3 h4 => (g6 b h1 (Nat.lt_of_lt_of_le h2 hkA.size) h3 h4).trans (hkept b h1 h2 h3 h4)⟩
   intro y hy
   rcases List.mem_cons.1 hy with rfl | hy
   ·exact HGX.out
   ·exact g2 y hy
theorem list_str (C : Cx) (htake : ∀ (s : St) (w : World), Src w C s -> Glob w -> Calls Tryz.prog 98 #[.pointer (some ⟨C.sb, 0, none⟩)] w (TookText C s w)) (s : St) (m : Nat) (w : World) (hs : Src w C s) (hg : Glob w) (hB0 : 0 < C.B) (hm : m <= 10000) :
  Calls Tryz.prog 99 #[.pointer (some ⟨C.sb, 0, none⟩), .int .i64 m, .func (.func 98) #[] #[]] w (TookL C 1 9 (sP strC) gS (pText C.L) m s w) := by
 obtain ⟨q1, q2, c0, c1, f2⟩ := hs.cells
 go_enter Tryz.func99, Tryz.ntmps99
 go_wp2_with fail
 refine (num_s C s m _ _ hs rfl (by omega)).mono ?_
 rintro r w1 ⟨n, s1, rfl, hn, t1, hs1, hf1⟩
 have HT := hid t1
 have hg1 : Glob w1 := glob_fs hg hf1 hB0 hs.low
 clear t1
 go_wp2_with fail
 refine (behind_str C htake n _ [] _ s1 w.heap.size w1 rfl hs1 hg1 hB0 (OwnX.nil _ _ _ _ _) hs.top hf1.size (by simp; omega)).mono ?_
 rintro r w2 ⟨v, ys, s2, rfl, g1, g2, gl, g3, g4, g5, g6⟩
 have HG1 := hid g1
 have HG3 := hid g3
 clear g1 g3
 go_wp2_with fail
 go_ret
 refine ⟨v, ys, s2, rfl, HG1.out, g2, by omega, took_pb HT.out HG3.out, g4, hf1.1.trans g5, fun b h1 h2 => ?_⟩
 simp only [List.mem_cons, List.not_mem_nil, or_false, not_or] at h2
 exact (g6 b h1 (Nat.lt_of_lt_of_le h1 hf1.size) h2.1 h2.2).trans (hf1.2 b h1 (by simp; exact h2))
theorem behind_fld (C : Cx) (htake : ∀ (s : St) (w : World), Src w C s -> Glob w -> Calls Tryz.prog 101 #[.pointer (some ⟨C.sb, 0, none⟩)] w (TookX C (sP fldC) gF (pFld C.L) s w)) :
  ∀ (n : Nat) (z : Int) (xs : List Fld) (v : Value) (s : St) (B : Nat) (w : World), z = (n : Int) -> Src w C s -> Glob w -> 0 < C.B -> OwnX 4 63 (sP fldC) w B v xs -> C.top <= B -> B <= w.heap.size -> xs.length + n <= 100000 ->
  Calls Tryz.prog 142 #[.pointer (some ⟨C.sb, 0, none⟩), v, .int .i64 z, .func (.func 101) #[] #[]] w (TookB C 4 63 (sP fldC) gF (pFld C.L) B xs n s w) := by
 intro n
 induction n with
 | zero =>
  intro z xs v s B w hz hs _ _ ho _ _ _
  subst hz
  have HO := hid ho
  clear ho
  go_enter Tryz.func142, Tryz.ntmps142
  go_wp2_with fail
  go_ret
  exact ⟨v, [], s, rfl, by rw [List.append_nil]; exact HO.out, fun _ h => by simp at h, Nat.le_refl _, adv_pr _ _, hs, Below.refl _ _, fun _ _ _ _ _ => rfl⟩
 | succ n ih =>
  intro z xs v s B w hz hs hg hB0 ho htop hB hlen
  have hzp : 0 < z /\ z <= 100000 := by omega
  have hznz : (z == 0) = false := beq_eq_false_iff_ne.2 (by omega)
  have hz1 : z - 1 = (n : Int) := by omega
  have HZ := hid hz1
  have HO := hid ho
  have HI := hid ih
  clear hz hz1 ho ih
  cases s with
  | error x =>
   have hx : ((x : Int) != 0) = true := by have := hs.err_ne; rw [bne_iff_ne]; omega
   go_enter Tryz.func142, Tryz.ntmps142
   go_wp2_with fail
   refine (err_s C _ _ hs).mono ?_
   rintro r w' ⟨rfl, rfl⟩
   rw [show errN (.error x) = (x : Int) from rfl]
   go_wp2_with fail
   go_ret
   exact ⟨v, [], .error x, rfl, by rw [List.append_nil]; exact HO.out, fun _ h => by simp at h, Nat.zero_le _, took_err _, hs, Below.refl _ _, fun _ _ _ _ _ => rfl⟩
  | ok l =>
   go_enter Tryz.func142, Tryz.ntmps142
   go_wp2_with fail
   refine (err_s C _ _ hs).mono ?_
   rintro r w' ⟨rfl, rfl⟩
   rw [show errN (.ok l) = 0 from rfl]
   go_wp2_with fail
   refine (htake _ _ hs hg).mono ?_
   rintro r w1 ⟨vs, x, sA, rfl, hvx, hgx, t1, hs1, hf1⟩
   have hvs : vs = fldC x := hvx
   subst hvs
   obtain ⟨s0, ⟨s1, s2⟩, s3⟩ := x
   rw [show fldC _ = [.string s0, .int .i64 s1, .string s2, .bool s3] from rfl] at hvx ⊢
   have hk1 : Keeps (fun b => B <= b) w w1 := (hf1.keeps hs).mono (fun b hb => by omega)
   have ho1 := HO.out.keeps (sP.grow _) hk1 hf1.size
   have hvo := HO.out.lt
   have hB1 : B <= w1.heap.size := Nat.le_trans hB hf1.size
   have hbA : Below w1.heap.size w1 (w1.alloc (.cells #[.string s0, .int .i64 s1, .string s2, .bool s3] 63)) := (Below.refl _ _).alloc (Nat.le_refl _) _
   have hoA := ho1.keeps (sP.grow _) (.of_below hbA) hbA.size
   have hvA : (sP fldC) (fun b => B <= b /\ v.ownBlock ≠ some b) (w1.alloc (.cells #[.string s0, .int .i64 s1, .string s2, .bool s3] 63)) [.string s0, .int .i64 s1, .string s2, .bool s3] _ := (sP.grow _) _ _ _ _ _ _ hvx (fun b hb _ => ⟨Nat.le_trans hB hb, fun e => by have := (hvo b e).2; omega⟩) (.of_below hbA) hbA.size
   have hcA := cells_next (w := w1) (vs := [.string s0, .int .i64 s1, .string s2, .bool s3]) 63 rfl
   have HT1 := hid t1
   have HVA := hid hvA
   have HOA := hid hoA
   have HCA := hid hcA
   have HGX := hid hgx
   clear t1 hvA hoA hcA hgx hvx ho1
   go_wp2_with (at_builtin; refine wp_appX inf_fld (sP.grow _) shape_fld rfl _ _ rfl B v xs rfl HOA.out w1.heap.size 1 _ _ rfl HVA.out HCA.out (by omega) (by have := hbA.size; omega) ?_)
   intro v2 w2 ho2 hg2 hl2
   have hsA := hs1.below hbA
   have hs2 : Src w2 C sA := hsA.kpt (.of_grown (S := v.ownBlock.toList) hg2 (fun g e => .inl (by rw [e]; simp))) (fun b hb hx => by
    have := (hvo b (by simpa using hx)).1
    omega)
   have hkA : Below 0 w w2 := (hf1.1.trans (hbA.mono (Nat.zero_le _))).trans ⟨hg2.os, hg2.tape, hg2.output, hg2.size, fun k hk => absurd hk (Nat.not_lt_zero k)⟩
   have hkept : ∀ b, b < B -> b < w.heap.size -> b ≠ C.rb -> b ≠ C.sb -> w2.heap[b]? = w.heap[b]? := fun b h1 h2 h3 h4 => by
    rw [hg2.block b (by have := hbA.size; have := hf1.size; omega) (fun e => by have := (hvo b e.symm).1; omega), hbA.block b (by have := hf1.size; omega)]
    exact hf1.2 b h2 (by simp; omega)
   have hgl2 : Glob w2 := glob_kept hg hkept hB0 hs.low htop
   have hB2 : B <= w2.heap.size := Nat.le_trans hB hkA.size
   have HO2 := hid ho2
   clear ho2 hg2 hl2
   go_wp2_with fail
   refine (HI.out (z - 1) (xs ++ [_]) v2 sA B w2 HZ.out hs2 hgl2 hB0 HO2.out htop hB2 (by rw [List.length_append]; simp; omega)).mono ?_
   rintro r w3 ⟨v3, ys, sC, rfl, g1, g2, gl, g3, g4, g5, g6⟩
   have HG1 := hid g1
   have HG3 := hid g3
   clear g1 g3
   go_wp2_with fail
   go_ret
   refine ⟨v3, _ :: ys, sC, rfl, by have := HG1.out; rwa [List.append_assoc] at this, ?_, by rw [List.length_cons]; omega, took_pb HT1.out (took_map (g := fun ys => _ :: ys) HG3.out), g4, hkA.trans g5, fun b h1 h2 h3 h4 => (g6 b h1 (Nat.lt_of_lt_of_le h2 hkA.size) h3 h4).trans (hkept b h1 h2 h3 h4)⟩
   intro y hy
   rcases List.mem_cons.1 hy with rfl | hy
   ·exact HGX.out
   ·exact g2 y hy
theorem list_fld (C : Cx) (htake : ∀ (s : St) (w : World), Src w C s -> Glob w -> Calls Tryz.prog 101 #[.pointer (some ⟨C.sb, 0, none⟩)] w (TookX C (sP fldC) gF (pFld C.L) s w)) (s : St) (m : Nat) (w : World) (hs : Src w C s) (hg : Glob w) (hB0 : 0 < C.B) (hm : m <= 10000) :
  Calls Tryz.prog 100 #[.pointer (some ⟨C.sb, 0, none⟩), .int .i64 m, .func (.func 101) #[] #[]] w (TookL C 4 63 (sP fldC) gF (pFld C.L) m s w) := by
 obtain ⟨q1, q2, c0, c1, f2⟩ := hs.cells
 go_enter Tryz.func100, Tryz.ntmps100
 go_wp2_with fail
 refine (num_s C s m _ _ hs rfl (by omega)).mono ?_
 rintro r w1 ⟨n, s1, rfl, hn, t1, hs1, hf1⟩
 have HT := hid t1
 have hg1 : Glob w1 := glob_fs hg hf1 hB0 hs.low
 clear t1
 go_wp2_with fail
 refine (behind_fld C htake n _ [] _ s1 w.heap.size w1 rfl hs1 hg1 hB0 (OwnX.nil _ _ _ _ _) hs.top hf1.size (by simp; omega)).mono ?_
 rintro r w2 ⟨v, ys, s2, rfl, g1, g2, gl, g3, g4, g5, g6⟩
 have HG1 := hid g1
 have HG3 := hid g3
 clear g1 g3
 go_wp2_with fail
 go_ret
 refine ⟨v, ys, s2, rfl, HG1.out, g2, by omega, took_pb HT.out HG3.out, g4, hf1.1.trans g5, fun b h1 h2 => ?_⟩
 simp only [List.mem_cons, List.not_mem_nil, or_false, not_or] at h2
 exact (g6 b h1 (Nat.lt_of_lt_of_le h1 hf1.size) h2.1 h2.2).trans (hf1.2 b h1 (by simp; exact h2))
theorem behind_ins (C : Cx) (htake : ∀ (s : St) (w : World), Src w C s -> Glob w -> Calls Tryz.prog 147 #[.pointer (some ⟨C.sb, 0, none⟩)] w (TookX C (sP insC) gI (pIns C.L) s w)) :
  ∀ (n : Nat) (z : Int) (xs : List Ins) (v : Value) (s : St) (B : Nat) (w : World), z = (n : Int) -> Src w C s -> Glob w -> 0 < C.B -> OwnX 7 61 (sP insC) w B v xs -> C.top <= B -> B <= w.heap.size -> xs.length + n <= 100000 ->
  Calls Tryz.prog 181 #[.pointer (some ⟨C.sb, 0, none⟩), v, .int .i64 z, .func (.func 147) #[] #[]] w (TookB C 7 61 (sP insC) gI (pIns C.L) B xs n s w) := by
 intro n
 induction n with
 | zero =>
  intro z xs v s B w hz hs _ _ ho _ _ _
  subst hz
  have HO := hid ho
  clear ho
  go_enter Tryz.func181, Tryz.ntmps181
  go_wp2_with fail
  go_ret
  exact ⟨v, [], s, rfl, by rw [List.append_nil]; exact HO.out, fun _ h => by simp at h, Nat.le_refl _, adv_pr _ _, hs, Below.refl _ _, fun _ _ _ _ _ => rfl⟩
 | succ n ih =>
  intro z xs v s B w hz hs hg hB0 ho htop hB hlen
  have hzp : 0 < z /\ z <= 100000 := by omega
  have hznz : (z == 0) = false := beq_eq_false_iff_ne.2 (by omega)
  have hz1 : z - 1 = (n : Int) := by omega
  have HZ := hid hz1
  have HO := hid ho
  have HI := hid ih
  clear hz hz1 ho ih
  cases s with
  | error x =>
   have hx : ((x : Int) != 0) = true := by have := hs.err_ne; rw [bne_iff_ne]; omega
   go_enter Tryz.func181, Tryz.ntmps181
   go_wp2_with fail
   refine (err_s C _ _ hs).mono ?_
   rintro r w' ⟨rfl, rfl⟩
   rw [show errN (.error x) = (x : Int) from rfl]
   go_wp2_with fail
   go_ret
   exact ⟨v, [], .error x, rfl, by rw [List.append_nil]; exact HO.out, fun _ h => by simp at h, Nat.zero_le _, took_err _, hs, Below.refl _ _, fun _ _ _ _ _ => rfl⟩
  | ok l =>
   go_enter Tryz.func181, Tryz.ntmps181
   go_wp2_with fail
   refine (err_s C _ _ hs).mono ?_
   rintro r w' ⟨rfl, rfl⟩
   rw [show errN (.ok l) = 0 from rfl]
   go_wp2_with fail
   refine (htake _ _ hs hg).mono ?_
   rintro r w1 ⟨vs, x, sA, rfl, hvx, hgx, t1, hs1, hf1⟩
   have hvs : vs = insC x := hvx
   subst hvs
   obtain ⟨s0, s1, s2, s3, s4, s5, s6⟩ := x
   rw [show insC _ = [.int .i64 s0, .int .i32 s1, .int .i64 s2, .string s3, .string s4, .string s5, .string s6] from rfl] at hvx ⊢
   have hk1 : Keeps (fun b => B <= b) w w1 := (hf1.keeps hs).mono (fun b hb => by omega)
   have ho1 := HO.out.keeps (sP.grow _) hk1 hf1.size
   have hvo := HO.out.lt
   have hB1 : B <= w1.heap.size := Nat.le_trans hB hf1.size
   have hbA : Below w1.heap.size w1 (w1.alloc (.cells #[.int .i64 s0, .int .i32 s1, .int .i64 s2, .string s3, .string s4, .string s5, .string s6] 61)) := (Below.refl _ _).alloc (Nat.le_refl _) _
   have hoA := ho1.keeps (sP.grow _) (.of_below hbA) hbA.size
   have hvA : (sP insC) (fun b => B <= b /\ v.ownBlock ≠ some b) (w1.alloc (.cells #[.int .i64 s0, .int .i32 s1, .int .i64 s2, .string s3, .string s4, .string s5, .string s6] 61)) [.int .i64 s0, .int .i32 s1, .int .i64 s2, .string s3, .string s4, .string s5, .string s6] _ := (sP.grow _) _ _ _ _ _ _ hvx (fun b hb _ => ⟨Nat.le_trans hB hb, fun e => by have := (hvo b e).2; omega⟩) (.of_below hbA) hbA.size
   have hcA := cells_next (w := w1) (vs := [.int .i64 s0, .int .i32 s1, .int .i64 s2, .string s3, .string s4, .string s5, .string s6]) 61 rfl
   have HT1 := hid t1
   have HVA := hid hvA
   have HOA := hid hoA
   have HCA := hid hcA
   have HGX := hid hgx
   clear t1 hvA hoA hcA hgx hvx ho1
   go_wp2_with (at_builtin; refine wp_appX inf_ins (sP.grow _) shape_ins rfl _ _ rfl B v xs rfl HOA.out w1.heap.size 1 _ _ rfl HVA.out HCA.out (by omega) (by have := hbA.size; omega) ?_)
   intro v2 w2 ho2 hg2 hl2
   have hsA := hs1.below hbA
   have hs2 : Src w2 C sA := hsA.kpt (.of_grown (S := v.ownBlock.toList) hg2 (fun g e => .inl (by rw [e]; simp))) (fun b hb hx => by
    have := (hvo b (by simpa using hx)).1
    omega)
   have hkA : Below 0 w w2 := (hf1.1.trans (hbA.mono (Nat.zero_le _))).trans ⟨hg2.os, hg2.tape, hg2.output, hg2.size, fun k hk => absurd hk (Nat.not_lt_zero k)⟩
   have hkept : ∀ b, b < B -> b < w.heap.size -> b ≠ C.rb -> b ≠ C.sb -> w2.heap[b]? = w.heap[b]? := fun b h1 h2 h3 h4 => by
    rw [hg2.block b (by have := hbA.size; have := hf1.size; omega) (fun e => by have := (hvo b e.symm).1; omega), hbA.block b (by have := hf1.size; omega)]
    exact hf1.2 b h2 (by simp; omega)
   have hgl2 : Glob w2 := glob_kept hg hkept hB0 hs.low htop
   have hB2 : B <= w2.heap.size := Nat.le_trans hB hkA.size
   have HO2 := hid ho2
   clear ho2 hg2 hl2
   go_wp2_with fail
   refine (HI.out (z - 1) (xs ++ [_]) v2 sA B w2 HZ.out hs2 hgl2 hB0 HO2.out htop hB2 (by rw [List.length_append]; simp; omega)).mono ?_
   rintro r w3 ⟨v3, ys, sC, rfl, g1, g2, gl, g3, g4, g5, g6⟩
   have HG1 := hid g1
   have HG3 := hid g3
   clear g1 g3
   go_wp2_with fail
   go_ret
   refine ⟨v3, _ :: ys, sC, rfl, by have := HG1.out; rwa [List.append_assoc] at this, ?_, by rw [List.length_cons]; omega, took_pb HT1.out (took_map (g := fun ys => _ :: ys) HG3.out), g4, hkA.trans g5, fun b h1 h2 h3 h4 => (g6 b h1 (Nat.lt_of_lt_of_le h2 hkA.size) h3 h4).trans (hkept b h1 h2 h3 h4)⟩
   intro y hy
   rcases List.mem_cons.1 hy with rfl | hy
   ·exact HGX.out
   ·exact g2 y hy
theorem list_ins (C : Cx) (htake : ∀ (s : St) (w : World), Src w C s -> Glob w -> Calls Tryz.prog 147 #[.pointer (some ⟨C.sb, 0, none⟩)] w (TookX C (sP insC) gI (pIns C.L) s w)) (s : St) (m : Nat) (w : World) (hs : Src w C s) (hg : Glob w) (hB0 : 0 < C.B) (hm : m <= 10000) :
  Calls Tryz.prog 146 #[.pointer (some ⟨C.sb, 0, none⟩), .int .i64 m, .func (.func 147) #[] #[]] w (TookL C 7 61 (sP insC) gI (pIns C.L) m s w) := by
 obtain ⟨q1, q2, c0, c1, f2⟩ := hs.cells
 go_enter Tryz.func146, Tryz.ntmps146
 go_wp2_with fail
 refine (num_s C s m _ _ hs rfl (by omega)).mono ?_
 rintro r w1 ⟨n, s1, rfl, hn, t1, hs1, hf1⟩
 have HT := hid t1
 have hg1 : Glob w1 := glob_fs hg hf1 hB0 hs.low
 clear t1
 go_wp2_with fail
 refine (behind_ins C htake n _ [] _ s1 w.heap.size w1 rfl hs1 hg1 hB0 (OwnX.nil _ _ _ _ _) hs.top hf1.size (by simp; omega)).mono ?_
 rintro r w2 ⟨v, ys, s2, rfl, g1, g2, gl, g3, g4, g5, g6⟩
 have HG1 := hid g1
 have HG3 := hid g3
 clear g1 g3
 go_wp2_with fail
 go_ret
 refine ⟨v, ys, s2, rfl, HG1.out, g2, by omega, took_pb HT.out HG3.out, g4, hf1.1.trans g5, fun b h1 h2 => ?_⟩
 simp only [List.mem_cons, List.not_mem_nil, or_false, not_or] at h2
 exact (g6 b h1 (Nat.lt_of_lt_of_le h1 hf1.size) h2.1 h2.2).trans (hf1.2 b h1 (by simp; exact h2))
theorem behind_hnd (C : Cx) (htake : ∀ (s : St) (w : World), Src w C s -> Glob w -> Calls Tryz.prog 149 #[.pointer (some ⟨C.sb, 0, none⟩)] w (TookX C (sP hndC) gH (pHnd C.L) s w)) :
  ∀ (n : Nat) (z : Int) (xs : List Hnd) (v : Value) (s : St) (B : Nat) (w : World), z = (n : Int) -> Src w C s -> Glob w -> 0 < C.B -> OwnX 4 66 (sP hndC) w B v xs -> C.top <= B -> B <= w.heap.size -> xs.length + n <= 100000 ->
  Calls Tryz.prog 184 #[.pointer (some ⟨C.sb, 0, none⟩), v, .int .i64 z, .func (.func 149) #[] #[]] w (TookB C 4 66 (sP hndC) gH (pHnd C.L) B xs n s w) := by
 intro n
 induction n with
 | zero =>
  intro z xs v s B w hz hs _ _ ho _ _ _
  subst hz
  have HO := hid ho
  clear ho
  go_enter Tryz.func184, Tryz.ntmps184
  go_wp2_with fail
  go_ret
  exact ⟨v, [], s, rfl, by rw [List.append_nil]; exact HO.out, fun _ h => by simp at h, Nat.le_refl _, adv_pr _ _, hs, Below.refl _ _, fun _ _ _ _ _ => rfl⟩
 | succ n ih =>
  intro z xs v s B w hz hs hg hB0 ho htop hB hlen
  have hzp : 0 < z /\ z <= 100000 := by omega
  have hznz : (z == 0) = false := beq_eq_false_iff_ne.2 (by omega)
  have hz1 : z - 1 = (n : Int) := by omega
  have HZ := hid hz1
  have HO := hid ho
  have HI := hid ih
  clear hz hz1 ho ih
  cases s with
  | error x =>
   have hx : ((x : Int) != 0) = true := by have := hs.err_ne; rw [bne_iff_ne]; omega
   go_enter Tryz.func184, Tryz.ntmps184
   go_wp2_with fail
   refine (err_s C _ _ hs).mono ?_
   rintro r w' ⟨rfl, rfl⟩
   rw [show errN (.error x) = (x : Int) from rfl]
   go_wp2_with fail
   go_ret
   exact ⟨v, [], .error x, rfl, by rw [List.append_nil]; exact HO.out, fun _ h => by simp at h, Nat.zero_le _, took_err _, hs, Below.refl _ _, fun _ _ _ _ _ => rfl⟩
  | ok l =>
   go_enter Tryz.func184, Tryz.ntmps184
   go_wp2_with fail
   refine (err_s C _ _ hs).mono ?_
   rintro r w' ⟨rfl, rfl⟩
   rw [show errN (.ok l) = 0 from rfl]
   go_wp2_with fail
   refine (htake _ _ hs hg).mono ?_
   rintro r w1 ⟨vs, x, sA, rfl, hvx, hgx, t1, hs1, hf1⟩
   have hvs : vs = hndC x := hvx
   subst hvs
   obtain ⟨s0, s1, s2, s3⟩ := x
   rw [show hndC _ = [.int .i64 s0, .int .i64 s1, .int .i64 s2, .string s3] from rfl] at hvx ⊢
   have hk1 : Keeps (fun b => B <= b) w w1 := (hf1.keeps hs).mono (fun b hb => by omega)
   have ho1 := HO.out.keeps (sP.grow _) hk1 hf1.size
   have hvo := HO.out.lt
   have hB1 : B <= w1.heap.size := Nat.le_trans hB hf1.size
   have hbA : Below w1.heap.size w1 (w1.alloc (.cells #[.int .i64 s0, .int .i64 s1, .int .i64 s2, .string s3] 66)) := (Below.refl _ _).alloc (Nat.le_refl _) _
   have hoA := ho1.keeps (sP.grow _) (.of_below hbA) hbA.size
   have hvA : (sP hndC) (fun b => B <= b /\ v.ownBlock ≠ some b) (w1.alloc (.cells #[.int .i64 s0, .int .i64 s1, .int .i64 s2, .string s3] 66)) [.int .i64 s0, .int .i64 s1, .int .i64 s2, .string s3] _ := (sP.grow _) _ _ _ _ _ _ hvx (fun b hb _ => ⟨Nat.le_trans hB hb, fun e => by have := (hvo b e).2; omega⟩) (.of_below hbA) hbA.size
   have hcA := cells_next (w := w1) (vs := [.int .i64 s0, .int .i64 s1, .int .i64 s2, .string s3]) 66 rfl
   have HT1 := hid t1
   have HVA := hid hvA
   have HOA := hid hoA
   have HCA := hid hcA
   have HGX := hid hgx
   clear t1 hvA hoA hcA hgx hvx ho1
   go_wp2_with (at_builtin; refine wp_appX inf_hnd (sP.grow _) shape_hnd rfl _ _ rfl B v xs rfl HOA.out w1.heap.size 1 _ _ rfl HVA.out HCA.out (by omega) (by have := hbA.size; omega) ?_)
   intro v2 w2 ho2 hg2 hl2
   have hsA := hs1.below hbA
   have hs2 : Src w2 C sA := hsA.kpt (.of_grown (S := v.ownBlock.toList) hg2 (fun g e => .inl (by rw [e]; simp))) (fun b hb hx => by
    have := (hvo b (by simpa using hx)).1
    omega)
   have hkA : Below 0 w w2 := (hf1.1.trans (hbA.mono (Nat.zero_le _))).trans ⟨hg2.os, hg2.tape, hg2.output, hg2.size, fun k hk => absurd hk (Nat.not_lt_zero k)⟩
   have hkept : ∀ b, b < B -> b < w.heap.size -> b ≠ C.rb -> b ≠ C.sb -> w2.heap[b]? = w.heap[b]? := fun b h1 h2 h3 h4 => by
    rw [hg2.block b (by have := hbA.size; have := hf1.size; omega) (fun e => by have := (hvo b e.symm).1; omega), hbA.block b (by have := hf1.size; omega)]
    exact hf1.2 b h2 (by simp; omega)
   have hgl2 : Glob w2 := glob_kept hg hkept hB0 hs.low htop
   have hB2 : B <= w2.heap.size := Nat.le_trans hB hkA.size
   have HO2 := hid ho2
   clear ho2 hg2 hl2
   go_wp2_with fail
   refine (HI.out (z - 1) (xs ++ [_]) v2 sA B w2 HZ.out hs2 hgl2 hB0 HO2.out htop hB2 (by rw [List.length_append]; simp; omega)).mono ?_
   rintro r w3 ⟨v3, ys, sC, rfl, g1, g2, gl, g3, g4, g5, g6⟩
   have HG1 := hid g1
   have HG3 := hid g3
   clear g1 g3
   go_wp2_with fail
   go_ret
   refine ⟨v3, _ :: ys, sC, rfl, by have := HG1.out; rwa [List.append_assoc] at this, ?_, by rw [List.length_cons]; omega, took_pb HT1.out (took_map (g := fun ys => _ :: ys) HG3.out), g4, hkA.trans g5, fun b h1 h2 h3 h4 => (g6 b h1 (Nat.lt_of_lt_of_le h2 hkA.size) h3 h4).trans (hkept b h1 h2 h3 h4)⟩
   intro y hy
   rcases List.mem_cons.1 hy with rfl | hy
   ·exact HGX.out
   ·exact g2 y hy
theorem list_hnd (C : Cx) (htake : ∀ (s : St) (w : World), Src w C s -> Glob w -> Calls Tryz.prog 149 #[.pointer (some ⟨C.sb, 0, none⟩)] w (TookX C (sP hndC) gH (pHnd C.L) s w)) (s : St) (m : Nat) (w : World) (hs : Src w C s) (hg : Glob w) (hB0 : 0 < C.B) (hm : m <= 10000) :
  Calls Tryz.prog 148 #[.pointer (some ⟨C.sb, 0, none⟩), .int .i64 m, .func (.func 149) #[] #[]] w (TookL C 4 66 (sP hndC) gH (pHnd C.L) m s w) := by
 obtain ⟨q1, q2, c0, c1, f2⟩ := hs.cells
 go_enter Tryz.func148, Tryz.ntmps148
 go_wp2_with fail
 refine (num_s C s m _ _ hs rfl (by omega)).mono ?_
 rintro r w1 ⟨n, s1, rfl, hn, t1, hs1, hf1⟩
 have HT := hid t1
 have hg1 : Glob w1 := glob_fs hg hf1 hB0 hs.low
 clear t1
 go_wp2_with fail
 refine (behind_hnd C htake n _ [] _ s1 w.heap.size w1 rfl hs1 hg1 hB0 (OwnX.nil _ _ _ _ _) hs.top hf1.size (by simp; omega)).mono ?_
 rintro r w2 ⟨v, ys, s2, rfl, g1, g2, gl, g3, g4, g5, g6⟩
 have HG1 := hid g1
 have HG3 := hid g3
 clear g1 g3
 go_wp2_with fail
 go_ret
 refine ⟨v, ys, s2, rfl, HG1.out, g2, by omega, took_pb HT.out HG3.out, g4, hf1.1.trans g5, fun b h1 h2 => ?_⟩
 simp only [List.mem_cons, List.not_mem_nil, or_false, not_or] at h2
 exact (g6 b h1 (Nat.lt_of_lt_of_le h1 hf1.size) h2.1 h2.2).trans (hf1.2 b h1 (by simp; exact h2))
theorem behind_mth (C : Cx) (htake : ∀ (s : St) (w : World), Src w C s -> Glob w -> Calls Tryz.prog 103 #[.pointer (some ⟨C.sb, 0, none⟩)] w (TookX C mP gM (pMth C.L) s w)) :
  ∀ (n : Nat) (z : Int) (xs : List Mth) (v : Value) (s : St) (B : Nat) (w : World), z = (n : Int) -> Src w C s -> Glob w -> 0 < C.B -> OwnX 9 59 mP w B v xs -> C.top <= B -> B <= w.heap.size -> xs.length + n <= 100000 ->
  Calls Tryz.prog 144 #[.pointer (some ⟨C.sb, 0, none⟩), v, .int .i64 z, .func (.func 103) #[] #[]] w (TookB C 9 59 mP gM (pMth C.L) B xs n s w) := by
 intro n
 induction n with
 | zero =>
  intro z xs v s B w hz hs _ _ ho _ _ _
  subst hz
  have HO := hid ho
  clear ho
  go_enter Tryz.func144, Tryz.ntmps144
  go_wp2_with fail
  go_ret
  exact ⟨v, [], s, rfl, by rw [List.append_nil]; exact HO.out, fun _ h => by simp at h, Nat.le_refl _, adv_pr _ _, hs, Below.refl _ _, fun _ _ _ _ _ => rfl⟩
 | succ n ih =>
  intro z xs v s B w hz hs hg hB0 ho htop hB hlen
  have hzp : 0 < z /\ z <= 100000 := by omega
  have hznz : (z == 0) = false := beq_eq_false_iff_ne.2 (by omega)
  have hz1 : z - 1 = (n : Int) := by omega
  have HZ := hid hz1
  have HO := hid ho
  have HI := hid ih
  clear hz hz1 ho ih
  cases s with
  | error x =>
   have hx : ((x : Int) != 0) = true := by have := hs.err_ne; rw [bne_iff_ne]; omega
   go_enter Tryz.func144, Tryz.ntmps144
   go_wp2_with fail
   refine (err_s C _ _ hs).mono ?_
   rintro r w' ⟨rfl, rfl⟩
   rw [show errN (.error x) = (x : Int) from rfl]
   go_wp2_with fail
   go_ret
   exact ⟨v, [], .error x, rfl, by rw [List.append_nil]; exact HO.out, fun _ h => by simp at h, Nat.zero_le _, took_err _, hs, Below.refl _ _, fun _ _ _ _ _ => rfl⟩
  | ok l =>
   go_enter Tryz.func144, Tryz.ntmps144
   go_wp2_with fail
   refine (err_s C _ _ hs).mono ?_
   rintro r w' ⟨rfl, rfl⟩
   rw [show errN (.ok l) = 0 from rfl]
   go_wp2_with fail
   refine (htake _ _ hs hg).mono ?_
   rintro r w1 ⟨vs, x, sA, rfl, hvx, hgx, t1, hs1, hf1⟩
   have hvx' := hvx
   obtain ⟨vp, vc, vh, rfl, hd0, hd1, hd2⟩ := hvx'
   obtain ⟨pvp, cvp, rfl, -⟩ := hd0.len
   obtain ⟨pvc, cvc, rfl, -⟩ := hd1.len
   obtain ⟨pvh, cvh, rfl, -⟩ := hd2.len
   clear hd0 hd1 hd2
   have hk1 : Keeps (fun b => B <= b) w w1 := (hf1.keeps hs).mono (fun b hb => by omega)
   have ho1 := HO.out.keeps mP.grow hk1 hf1.size
   have hvo := HO.out.lt
   have hB1 : B <= w1.heap.size := Nat.le_trans hB hf1.size
   have hbA : Below w1.heap.size w1 (w1.alloc (.cells #[.string x.name, .slice pvp x.params.length cvp, .int .i64 x.ret.1, .string x.ret.2, .bool x.st, .bool x.ab, .int .i64 x.locals, .slice pvc x.code.length cvc, .slice pvh x.hs.length cvh] 59)) := (Below.refl _ _).alloc (Nat.le_refl _) _
   have hoA := ho1.keeps mP.grow (.of_below hbA) hbA.size
   have hvA : mP (fun b => B <= b /\ v.ownBlock ≠ some b) (w1.alloc (.cells #[.string x.name, .slice pvp x.params.length cvp, .int .i64 x.ret.1, .string x.ret.2, .bool x.st, .bool x.ab, .int .i64 x.locals, .slice pvc x.code.length cvc, .slice pvh x.hs.length cvh] 59)) [.string x.name, .slice pvp x.params.length cvp, .int .i64 x.ret.1, .string x.ret.2, .bool x.st, .bool x.ab, .int .i64 x.locals, .slice pvc x.code.length cvc, .slice pvh x.hs.length cvh] _ := mP.grow _ _ _ _ _ _ hvx (fun b hb _ => ⟨Nat.le_trans hB hb, fun e => by have := (hvo b e).2; omega⟩) (.of_below hbA) hbA.size
   have hcA := cells_next (w := w1) (vs := [.string x.name, .slice pvp x.params.length cvp, .int .i64 x.ret.1, .string x.ret.2, .bool x.st, .bool x.ab, .int .i64 x.locals, .slice pvc x.code.length cvc, .slice pvh x.hs.length cvh]) 59 rfl
   have HT1 := hid t1
   have HVA := hid hvA
   have HOA := hid hoA
   have HCA := hid hcA
   have HGX := hid hgx
   clear t1 hvA hoA hcA hgx hvx ho1
   go_wp2_with (at_builtin; refine wp_appX inf_mth mP.grow shape_mth rfl _ _ rfl B v xs rfl HOA.out w1.heap.size 1 _ _ rfl HVA.out HCA.out (by omega) (by have := hbA.size; omega) ?_)
   intro v2 w2 ho2 hg2 hl2
   have hsA := hs1.below hbA
   have hs2 : Src w2 C sA := hsA.kpt (.of_grown (S := v.ownBlock.toList) hg2 (fun g e => .inl (by rw [e]; simp))) (fun b hb hx => by
    have := (hvo b (by simpa using hx)).1
    omega)
   have hkA : Below 0 w w2 := (hf1.1.trans (hbA.mono (Nat.zero_le _))).trans ⟨hg2.os, hg2.tape, hg2.output, hg2.size, fun k hk => absurd hk (Nat.not_lt_zero k)⟩
   have hkept : ∀ b, b < B -> b < w.heap.size -> b ≠ C.rb -> b ≠ C.sb -> w2.heap[b]? = w.heap[b]? := fun b h1 h2 h3 h4 => by
    rw [hg2.block b (by have := hbA.size; have := hf1.size; omega) (fun e => by have := (hvo b e.symm).1; omega), hbA.block b (by have := hf1.size; omega)]
    exact hf1.2 b h2 (by simp; omega)
   have hgl2 : Glob w2 := glob_kept hg hkept hB0 hs.low htop
   have hB2 : B <= w2.heap.size := Nat.le_trans hB hkA.size
   have HO2 := hid ho2
   clear ho2 hg2 hl2
   go_wp2_with fail
   refine (HI.out (z - 1) (xs ++ [_]) v2 sA B w2 HZ.out hs2 hgl2 hB0 HO2.out htop hB2 (by rw [List.length_append]; simp; omega)).mono ?_
   rintro r w3 ⟨v3, ys, sC, rfl, g1, g2, gl, g3, g4, g5, g6⟩
   have HG1 := hid g1
   have HG3 := hid g3
   clear g1 g3
   go_wp2_with fail
   go_ret
   refine ⟨v3, _ :: ys, sC, rfl, by have := HG1.out; rwa [List.append_assoc] at this, ?_, by rw [List.length_cons]; omega, took_pb HT1.out (took_map (g := fun ys => _ :: ys) HG3.out), g4, hkA.trans g5, fun b h1 h2 h3 h4 => (g6 b h1 (Nat.lt_of_lt_of_le h2 hkA.size) h3 h4).trans (hkept b h1 h2 h3 h4)⟩
   intro y hy
   rcases List.mem_cons.1 hy with rfl | hy
   ·exact HGX.out
   ·exact g2 y hy
theorem list_mth (C : Cx) (htake : ∀ (s : St) (w : World), Src w C s -> Glob w -> Calls Tryz.prog 103 #[.pointer (some ⟨C.sb, 0, none⟩)] w (TookX C mP gM (pMth C.L) s w)) (s : St) (m : Nat) (w : World) (hs : Src w C s) (hg : Glob w) (hB0 : 0 < C.B) (hm : m <= 10000) :
  Calls Tryz.prog 102 #[.pointer (some ⟨C.sb, 0, none⟩), .int .i64 m, .func (.func 103) #[] #[]] w (TookL C 9 59 mP gM (pMth C.L) m s w) := by
 obtain ⟨q1, q2, c0, c1, f2⟩ := hs.cells
 go_enter Tryz.func102, Tryz.ntmps102
 go_wp2_with fail
 refine (num_s C s m _ _ hs rfl (by omega)).mono ?_
 rintro r w1 ⟨n, s1, rfl, hn, t1, hs1, hf1⟩
 have HT := hid t1
 have hg1 : Glob w1 := glob_fs hg hf1 hB0 hs.low
 clear t1
 go_wp2_with fail
 refine (behind_mth C htake n _ [] _ s1 w.heap.size w1 rfl hs1 hg1 hB0 (OwnX.nil _ _ _ _ _) hs.top hf1.size (by simp; omega)).mono ?_
 rintro r w2 ⟨v, ys, s2, rfl, g1, g2, gl, g3, g4, g5, g6⟩
 have HG1 := hid g1
 have HG3 := hid g3
 clear g1 g3
 go_wp2_with fail
 go_ret
 refine ⟨v, ys, s2, rfl, HG1.out, g2, by omega, took_pb HT.out HG3.out, g4, hf1.1.trans g5, fun b h1 h2 => ?_⟩
 simp only [List.mem_cons, List.not_mem_nil, or_false, not_or] at h2
 exact (g6 b h1 (Nat.lt_of_lt_of_le h1 hf1.size) h2.1 h2.2).trans (hf1.2 b h1 (by simp; exact h2))
theorem behind_cls (C : Cx) (htake : ∀ (s : St) (w : World), Src w C s -> Glob w -> Calls Tryz.prog 54 #[.pointer (some ⟨C.sb, 0, none⟩)] w (TookX C cP gC (pCls C.L) s w)) :
  ∀ (n : Nat) (z : Int) (xs : List Cls) (v : Value) (s : St) (B : Nat) (w : World), z = (n : Int) -> Src w C s -> Glob w -> 0 < C.B -> OwnX 6 52 cP w B v xs -> C.top <= B -> B <= w.heap.size -> xs.length + n <= 100000 ->
  Calls Tryz.prog 97 #[.pointer (some ⟨C.sb, 0, none⟩), v, .int .i64 z, .func (.func 54) #[] #[]] w (TookB C 6 52 cP gC (pCls C.L) B xs n s w) := by
 intro n
 induction n with
 | zero =>
  intro z xs v s B w hz hs _ _ ho _ _ _
  subst hz
  have HO := hid ho
  clear ho
  go_enter Tryz.func97, Tryz.ntmps97
  go_wp2_with fail
  go_ret
  exact ⟨v, [], s, rfl, by rw [List.append_nil]; exact HO.out, fun _ h => by simp at h, Nat.le_refl _, adv_pr _ _, hs, Below.refl _ _, fun _ _ _ _ _ => rfl⟩
 | succ n ih =>
  intro z xs v s B w hz hs hg hB0 ho htop hB hlen
  have hzp : 0 < z /\ z <= 100000 := by omega
  have hznz : (z == 0) = false := beq_eq_false_iff_ne.2 (by omega)
  have hz1 : z - 1 = (n : Int) := by omega
  have HZ := hid hz1
  have HO := hid ho
  have HI := hid ih
  clear hz hz1 ho ih
  cases s with
  | error x =>
   have hx : ((x : Int) != 0) = true := by have := hs.err_ne; rw [bne_iff_ne]; omega
   go_enter Tryz.func97, Tryz.ntmps97
   go_wp2_with fail
   refine (err_s C _ _ hs).mono ?_
   rintro r w' ⟨rfl, rfl⟩
   rw [show errN (.error x) = (x : Int) from rfl]
   go_wp2_with fail
   go_ret
   exact ⟨v, [], .error x, rfl, by rw [List.append_nil]; exact HO.out, fun _ h => by simp at h, Nat.zero_le _, took_err _, hs, Below.refl _ _, fun _ _ _ _ _ => rfl⟩
  | ok l =>
   go_enter Tryz.func97, Tryz.ntmps97
   go_wp2_with fail
   refine (err_s C _ _ hs).mono ?_
   rintro r w' ⟨rfl, rfl⟩
   rw [show errN (.ok l) = 0 from rfl]
   go_wp2_with fail
   refine (htake _ _ hs hg).mono ?_
   rintro r w1 ⟨vs, x, sA, rfl, hvx, hgx, t1, hs1, hf1⟩
   have hvx' := hvx
   obtain ⟨vi, vf, vm, rfl, hd0, hd1, hd2⟩ := hvx'
   obtain ⟨pvi, cvi, rfl, -⟩ := hd0.len
   obtain ⟨pvf, cvf, rfl, -⟩ := hd1.len
   obtain ⟨pvm, cvm, rfl, -⟩ := hd2.len
   clear hd0 hd1 hd2
   have hk1 : Keeps (fun b => B <= b) w w1 := (hf1.keeps hs).mono (fun b hb => by omega)
   have ho1 := HO.out.keeps cP.grow hk1 hf1.size
   have hvo := HO.out.lt
   have hB1 : B <= w1.heap.size := Nat.le_trans hB hf1.size
   have hbA : Below w1.heap.size w1 (w1.alloc (.cells #[.string x.name, .string x.super, .slice pvi x.ifaces.length cvi, .int .i64 x.kind, .slice pvf x.fields.length cvf, .slice pvm x.methods.length cvm] 52)) := (Below.refl _ _).alloc (Nat.le_refl _) _
   have hoA := ho1.keeps cP.grow (.of_below hbA) hbA.size
   have hvA : cP (fun b => B <= b /\ v.ownBlock ≠ some b) (w1.alloc (.cells #[.string x.name, .string x.super, .slice pvi x.ifaces.length cvi, .int .i64 x.kind, .slice pvf x.fields.length cvf, .slice pvm x.methods.length cvm] 52)) [.string x.name, .string x.super, .slice pvi x.ifaces.length cvi, .int .i64 x.kind, .slice pvf x.fields.length cvf, .slice pvm x.methods.length cvm] _ := cP.grow _ _ _ _ _ _ hvx (fun b hb _ => ⟨Nat.le_trans hB hb, fun e => by have := (hvo b e).2; omega⟩) (.of_below hbA) hbA.size
   have hcA := cells_next (w := w1) (vs := [.string x.name, .string x.super, .slice pvi x.ifaces.length cvi, .int .i64 x.kind, .slice pvf x.fields.length cvf, .slice pvm x.methods.length cvm]) 52 rfl
   have HT1 := hid t1
   have HVA := hid hvA
   have HOA := hid hoA
   have HCA := hid hcA
   have HGX := hid hgx
   clear t1 hvA hoA hcA hgx hvx ho1
   go_wp2_with (at_builtin; refine wp_appX inf_cls cP.grow shape_cls rfl _ _ rfl B v xs rfl HOA.out w1.heap.size 1 _ _ rfl HVA.out HCA.out (by omega) (by have := hbA.size; omega) ?_)
   intro v2 w2 ho2 hg2 hl2
   have hsA := hs1.below hbA
   have hs2 : Src w2 C sA := hsA.kpt (.of_grown (S := v.ownBlock.toList) hg2 (fun g e => .inl (by rw [e]; simp))) (fun b hb hx => by
    have := (hvo b (by simpa using hx)).1
    omega)
   have hkA : Below 0 w w2 := (hf1.1.trans (hbA.mono (Nat.zero_le _))).trans ⟨hg2.os, hg2.tape, hg2.output, hg2.size, fun k hk => absurd hk (Nat.not_lt_zero k)⟩
   have hkept : ∀ b, b < B -> b < w.heap.size -> b ≠ C.rb -> b ≠ C.sb -> w2.heap[b]? = w.heap[b]? := fun b h1 h2 h3 h4 => by
    rw [hg2.block b (by have := hbA.size; have := hf1.size; omega) (fun e => by have := (hvo b e.symm).1; omega), hbA.block b (by have := hf1.size; omega)]
    exact hf1.2 b h2 (by simp; omega)
   have hgl2 : Glob w2 := glob_kept hg hkept hB0 hs.low htop
   have hB2 : B <= w2.heap.size := Nat.le_trans hB hkA.size
   have HO2 := hid ho2
   clear ho2 hg2 hl2
   go_wp2_with fail
   refine (HI.out (z - 1) (xs ++ [_]) v2 sA B w2 HZ.out hs2 hgl2 hB0 HO2.out htop hB2 (by rw [List.length_append]; simp; omega)).mono ?_
   rintro r w3 ⟨v3, ys, sC, rfl, g1, g2, gl, g3, g4, g5, g6⟩
   have HG1 := hid g1
   have HG3 := hid g3
   clear g1 g3
   go_wp2_with fail
   go_ret
   refine ⟨v3, _ :: ys, sC, rfl, by have := HG1.out; rwa [List.append_assoc] at this, ?_, by rw [List.length_cons]; omega, took_pb HT1.out (took_map (g := fun ys => _ :: ys) HG3.out), g4, hkA.trans g5, fun b h1 h2 h3 h4 => (g6 b h1 (Nat.lt_of_lt_of_le h2 hkA.size) h3 h4).trans (hkept b h1 h2 h3 h4)⟩
   intro y hy
   rcases List.mem_cons.1 hy with rfl | hy
   ·exact HGX.out
   ·exact g2 y hy
theorem list_cls (C : Cx) (htake : ∀ (s : St) (w : World), Src w C s -> Glob w -> Calls Tryz.prog 54 #[.pointer (some ⟨C.sb, 0, none⟩)] w (TookX C cP gC (pCls C.L) s w)) (s : St) (m : Nat) (w : World) (hs : Src w C s) (hg : Glob w) (hB0 : 0 < C.B) (hm : m <= 10000) :
  Calls Tryz.prog 53 #[.pointer (some ⟨C.sb, 0, none⟩), .int .i64 m, .func (.func 54) #[] #[]] w (TookL C 6 52 cP gC (pCls C.L) m s w) := by
 obtain ⟨q1, q2, c0, c1, f2⟩ := hs.cells
 go_enter Tryz.func53, Tryz.ntmps53
 go_wp2_with fail
 refine (num_s C s m _ _ hs rfl (by omega)).mono ?_
 rintro r w1 ⟨n, s1, rfl, hn, t1, hs1, hf1⟩
 have HT := hid t1
 have hg1 : Glob w1 := glob_fs hg hf1 hB0 hs.low
 clear t1
 go_wp2_with fail
 refine (behind_cls C htake n _ [] _ s1 w.heap.size w1 rfl hs1 hg1 hB0 (OwnX.nil _ _ _ _ _) hs.top hf1.size (by simp; omega)).mono ?_
 rintro r w2 ⟨v, ys, s2, rfl, g1, g2, gl, g3, g4, g5, g6⟩
 have HG1 := hid g1
 have HG3 := hid g3
 clear g1 g3
 go_wp2_with fail
 go_ret
 refine ⟨v, ys, s2, rfl, HG1.out, g2, by omega, took_pb HT.out HG3.out, g4, hf1.1.trans g5, fun b h1 h2 => ?_⟩
 simp only [List.mem_cons, List.not_mem_nil, or_false, not_or] at h2
 exact (g6 b h1 (Nat.lt_of_lt_of_le h1 hf1.size) h2.1 h2.2).trans (hf1.2 b h1 (by simp; exact h2))
end Go.Proofs.YtijnimjmimeefaaGreat.A
namespace Go.Proofs.YtijnimjmimeefaaGreat.A
open Go.RowKit Go.Proofs.YtijnimjmimeefaaGreat.D Go.Proofs.YtijnimjmimeefaaGreat.O
theorem boxN {w : World} {b : Nat} {vs : List Value} {T : TypeId} (h : w.heap[b]? = some (.cells vs.toArray T (0, 0))) : b < w.heap.size /\ CellsAt w b 0 vs /\ ∀ j, w.frozen? ⟨b, j, none⟩ = false := by
 refine ⟨(Array.getElem?_eq_some_iff.1 h).1, fun j u hu => ?_, fun j => ?_⟩
 ·rw [Nat.zero_add]
  simp [World.cell?, h, hu]
 ·simp [World.frozen?, h]
theorem Fs.box {C : Cx} {a b : World} {s : St} {X : Nat} {o : Obj} (h : Fs C a b) (hs : Src a C s) (hX : C.top <= X) (hb : a.heap[X]? = some o) : b.heap[X]? = some o := by
 obtain ⟨_, _, h6, h7, _⟩ := hs
 rw [h.2 X (Array.getElem?_eq_some_iff.1 hb).1 (by simp; omega)]
 exact hb
theorem Below.box {a b : World} {X : Nat} {o : Obj} (h : Below a.heap.size a b) (hb : a.heap[X]? = some o) : b.heap[X]? = some o := (h.block X (Array.getElem?_eq_some_iff.1 hb).1).trans hb
theorem oneR_size {x : ByteArray} : (oneR x.data.toList).1.2.size <= x.size := by
 rcases h : oneR x.data.toList with ⟨⟨k, c⟩, ok⟩
 cases ok with
 | false =>
  unfold oneR at h
  split at h
  ·simp at h
  ·simp only [Prod.mk.injEq] at h
   obtain ⟨h, -⟩ := h
   have : c = ⟨#[]⟩ := (congrArg Prod.snd h).symm
   subst this
   exact Nat.zero_le _
 | true =>
  obtain ⟨h1, h2⟩ := oneR_text h
  have h3 := congrArg List.length h1
  show c.size <= x.size
  have hx : x.data.toList.length = x.size := by simp
  rw [hx] at h3
  rw [<- h3]
  unfold rightB at h2
  simp only at h2
  split at h2
  ·rename_i h4
   have h4 : k = 4 := by simpa using h4
   subst h4
   have := congrArg List.length (typeL_ref c.data.toList)
   have hc : bx c.data.toList = c := by unfold bx; simp
   rw [hc] at this
   rw [this]
   simp
   have : c.data.size = c.size := rfl
   omega
  ·simp only [Bool.and_eq_true, decide_eq_true_eq] at h2
   omega
theorem set4 {w : World} {X : Nat} {T : TypeId} {a0 a1 a2 a3 v0 v1 v2 v3 : Value} (h : w.heap[X]? = some (.cells #[a0, a1, a2, a3] T (0, 0))) :
  ((((w.setCell ⟨X, 0, none⟩ v0).setCell ⟨X, 1, none⟩ v1).setCell ⟨X, 2, none⟩ v2).setCell ⟨X, 3, none⟩ v3).heap[X]? = some (.cells #[v0, v1, v2, v3] T (0, 0)) /\ Kpt [X] w ((((w.setCell ⟨X, 0, none⟩ v0).setCell ⟨X, 1, none⟩ v1).setCell ⟨X, 2, none⟩ v2).setCell ⟨X, 3, none⟩ v3) := by
 have h0 : (w.setCell ⟨X, 0, none⟩ v0).heap[X]? = some (.cells #[v0, a1, a2, a3] T (0, 0)) := by rw [heap_setCell_same _ X 0 _ _ _ h]; rfl
 have k0 : Kpt [X] w (w.setCell ⟨X, 0, none⟩ v0) := Kpt.set _ _ _ _ _ (by simp)
 have h1 : ((w.setCell ⟨X, 0, none⟩ v0).setCell ⟨X, 1, none⟩ v1).heap[X]? = some (.cells #[v0, v1, a2, a3] T (0, 0)) := by rw [heap_setCell_same _ X 1 _ _ _ h0]; rfl
 have k1 : Kpt [X] (w.setCell ⟨X, 0, none⟩ v0) ((w.setCell ⟨X, 0, none⟩ v0).setCell ⟨X, 1, none⟩ v1) := Kpt.set _ _ _ _ _ (by simp)
 have h2 : (((w.setCell ⟨X, 0, none⟩ v0).setCell ⟨X, 1, none⟩ v1).setCell ⟨X, 2, none⟩ v2).heap[X]? = some (.cells #[v0, v1, v2, a3] T (0, 0)) := by rw [heap_setCell_same _ X 2 _ _ _ h1]; rfl
 have k2 : Kpt [X] ((w.setCell ⟨X, 0, none⟩ v0).setCell ⟨X, 1, none⟩ v1) (((w.setCell ⟨X, 0, none⟩ v0).setCell ⟨X, 1, none⟩ v1).setCell ⟨X, 2, none⟩ v2) := Kpt.set _ _ _ _ _ (by simp)
 have h3 : ((((w.setCell ⟨X, 0, none⟩ v0).setCell ⟨X, 1, none⟩ v1).setCell ⟨X, 2, none⟩ v2).setCell ⟨X, 3, none⟩ v3).heap[X]? = some (.cells #[v0, v1, v2, v3] T (0, 0)) := by rw [heap_setCell_same _ X 3 _ _ _ h2]; rfl
 have k3 : Kpt [X] (((w.setCell ⟨X, 0, none⟩ v0).setCell ⟨X, 1, none⟩ v1).setCell ⟨X, 2, none⟩ v2) ((((w.setCell ⟨X, 0, none⟩ v0).setCell ⟨X, 1, none⟩ v1).setCell ⟨X, 2, none⟩ v2).setCell ⟨X, 3, none⟩ v3) := Kpt.set _ _ _ _ _ (by simp)
 exact ⟨h3, (Kpt.trans (Kpt.trans (Kpt.trans k0 k1 (fun _ h => .inl h)) k2 (fun _ h => .inl h)) k3 (fun _ h => .inl h))⟩
theorem set6 {w : World} {X : Nat} {T : TypeId} {a0 a1 a2 a3 a4 a5 v0 v1 v2 v3 v4 v5 : Value} (h : w.heap[X]? = some (.cells #[a0, a1, a2, a3, a4, a5] T (0, 0))) :
  ((((((w.setCell ⟨X, 0, none⟩ v0).setCell ⟨X, 1, none⟩ v1).setCell ⟨X, 2, none⟩ v2).setCell ⟨X, 3, none⟩ v3).setCell ⟨X, 4, none⟩ v4).setCell ⟨X, 5, none⟩ v5).heap[X]? = some (.cells #[v0, v1, v2, v3, v4, v5] T (0, 0)) /\ Kpt [X] w ((((((w.setCell ⟨X, 0, none⟩ v0).setCell ⟨X, 1, none⟩ v1).setCell ⟨X, 2, none⟩ v2).setCell ⟨X, 3, none⟩ v3).setCell ⟨X, 4, none⟩ v4).setCell ⟨X, 5, none⟩ v5) := by
 have h0 : (w.setCell ⟨X, 0, none⟩ v0).heap[X]? = some (.cells #[v0, a1, a2, a3, a4, a5] T (0, 0)) := by rw [heap_setCell_same _ X 0 _ _ _ h]; rfl
 have k0 : Kpt [X] w (w.setCell ⟨X, 0, none⟩ v0) := Kpt.set _ _ _ _ _ (by simp)
 have h1 : ((w.setCell ⟨X, 0, none⟩ v0).setCell ⟨X, 1, none⟩ v1).heap[X]? = some (.cells #[v0, v1, a2, a3, a4, a5] T (0, 0)) := by rw [heap_setCell_same _ X 1 _ _ _ h0]; rfl
 have k1 : Kpt [X] (w.setCell ⟨X, 0, none⟩ v0) ((w.setCell ⟨X, 0, none⟩ v0).setCell ⟨X, 1, none⟩ v1) := Kpt.set _ _ _ _ _ (by simp)
 have h2 : (((w.setCell ⟨X, 0, none⟩ v0).setCell ⟨X, 1, none⟩ v1).setCell ⟨X, 2, none⟩ v2).heap[X]? = some (.cells #[v0, v1, v2, a3, a4, a5] T (0, 0)) := by rw [heap_setCell_same _ X 2 _ _ _ h1]; rfl
 have k2 : Kpt [X] ((w.setCell ⟨X, 0, none⟩ v0).setCell ⟨X, 1, none⟩ v1) (((w.setCell ⟨X, 0, none⟩ v0).setCell ⟨X, 1, none⟩ v1).setCell ⟨X, 2, none⟩ v2) := Kpt.set _ _ _ _ _ (by simp)
 have h3 : ((((w.setCell ⟨X, 0, none⟩ v0).setCell ⟨X, 1, none⟩ v1).setCell ⟨X, 2, none⟩ v2).setCell ⟨X, 3, none⟩ v3).heap[X]? = some (.cells #[v0, v1, v2, v3, a4, a5] T (0, 0)) := by rw [heap_setCell_same _ X 3 _ _ _ h2]; rfl
 have k3 : Kpt [X] (((w.setCell ⟨X, 0, none⟩ v0).setCell ⟨X, 1, none⟩ v1).setCell ⟨X, 2, none⟩ v2) ((((w.setCell ⟨X, 0, none⟩ v0).setCell ⟨X, 1, none⟩ v1).setCell ⟨X, 2, none⟩ v2).setCell ⟨X, 3, none⟩ v3) := Kpt.set _ _ _ _ _ (by simp)
 have h4 : (((((w.setCell ⟨X, 0, none⟩ v0).setCell ⟨X, 1, none⟩ v1).setCell ⟨X, 2, none⟩ v2).setCell ⟨X, 3, none⟩ v3).setCell ⟨X, 4, none⟩ v4).heap[X]? = some (.cells #[v0, v1, v2, v3, v4, a5] T (0, 0)) := by rw [heap_setCell_same _ X 4 _ _ _ h3]; rfl
 have k4 : Kpt [X] ((((w.setCell ⟨X, 0, none⟩ v0).setCell ⟨X, 1, none⟩ v1).setCell ⟨X, 2, none⟩ v2).setCell ⟨X, 3, none⟩ v3) (((((w.setCell ⟨X, 0, none⟩ v0).setCell ⟨X, 1, none⟩ v1).setCell ⟨X, 2, none⟩ v2).setCell ⟨X, 3, none⟩ v3).setCell ⟨X, 4, none⟩ v4) := Kpt.set _ _ _ _ _ (by simp)
 have h5 : ((((((w.setCell ⟨X, 0, none⟩ v0).setCell ⟨X, 1, none⟩ v1).setCell ⟨X, 2, none⟩ v2).setCell ⟨X, 3, none⟩ v3).setCell ⟨X, 4, none⟩ v4).setCell ⟨X, 5, none⟩ v5).heap[X]? = some (.cells #[v0, v1, v2, v3, v4, v5] T (0, 0)) := by rw [heap_setCell_same _ X 5 _ _ _ h4]; rfl
 have k5 : Kpt [X] (((((w.setCell ⟨X, 0, none⟩ v0).setCell ⟨X, 1, none⟩ v1).setCell ⟨X, 2, none⟩ v2).setCell ⟨X, 3, none⟩ v3).setCell ⟨X, 4, none⟩ v4) ((((((w.setCell ⟨X, 0, none⟩ v0).setCell ⟨X, 1, none⟩ v1).setCell ⟨X, 2, none⟩ v2).setCell ⟨X, 3, none⟩ v3).setCell ⟨X, 4, none⟩ v4).setCell ⟨X, 5, none⟩ v5) := Kpt.set _ _ _ _ _ (by simp)
 exact ⟨h5, (Kpt.trans (Kpt.trans (Kpt.trans (Kpt.trans (Kpt.trans k0 k1 (fun _ h => .inl h)) k2 (fun _ h => .inl h)) k3 (fun _ h => .inl h)) k4 (fun _ h => .inl h)) k5 (fun _ h => .inl h))⟩
theorem set9 {w : World} {X : Nat} {T : TypeId} {a0 a1 a2 a3 a4 a5 a6 a7 a8 v0 v1 v2 v3 v4 v5 v6 v7 v8 : Value} (h : w.heap[X]? = some (.cells #[a0, a1, a2, a3, a4, a5, a6, a7, a8] T (0, 0))) :
  (((((((((w.setCell ⟨X, 0, none⟩ v0).setCell ⟨X, 1, none⟩ v1).setCell ⟨X, 2, none⟩ v2).setCell ⟨X, 3, none⟩ v3).setCell ⟨X, 4, none⟩ v4).setCell ⟨X, 5, none⟩ v5).setCell ⟨X, 6, none⟩ v6).setCell ⟨X, 7, none⟩ v7).setCell ⟨X, 8, none⟩ v8).heap[X]? = some (.cells #[v0, v1, v2, v3, v4, v5, v6, v7, v8] T (0, 0)) /\ Kpt [X] w (((((((((w.setCell ⟨X, 0, none⟩ v0).setCell ⟨X, 1, none⟩ v1).setCell ⟨X, 2, none⟩ v2).setCell ⟨X, 3, none⟩ v3).setCell ⟨X, 4, none⟩ v4).setCell ⟨X, 5, none⟩ v5).setCell ⟨X, 6, none⟩ v6).setCell ⟨X, 7, none⟩ v7).setCell ⟨X, 8, none⟩ v8) := by
 have h0 : (w.setCell ⟨X, 0, none⟩ v0).heap[X]? = some (.cells #[v0, a1, a2, a3, a4, a5, a6, a7, a8] T (0, 0)) := by rw [heap_setCell_same _ X 0 _ _ _ h]; rfl
 have k0 : Kpt [X] w (w.setCell ⟨X, 0, none⟩ v0) := Kpt.set _ _ _ _ _ (by simp)
 have h1 : ((w.setCell ⟨X, 0, none⟩ v0).setCell ⟨X, 1, none⟩ v1).heap[X]? = some (.cells #[v0, v1, a2, a3, a4, a5, a6, a7, a8] T (0, 0)) := by rw [heap_setCell_same _ X 1 _ _ _ h0]; rfl
 have k1 : Kpt [X] (w.setCell ⟨X, 0, none⟩ v0) ((w.setCell ⟨X, 0, none⟩ v0).setCell ⟨X, 1, none⟩ v1) := Kpt.set _ _ _ _ _ (by simp)
 have h2 : (((w.setCell ⟨X, 0, none⟩ v0).setCell ⟨X, 1, none⟩ v1).setCell ⟨X, 2, none⟩ v2).heap[X]? = some (.cells #[v0, v1, v2, a3, a4, a5, a6, a7, a8] T (0, 0)) := by rw [heap_setCell_same _ X 2 _ _ _ h1]; rfl
 have k2 : Kpt [X] ((w.setCell ⟨X, 0, none⟩ v0).setCell ⟨X, 1, none⟩ v1) (((w.setCell ⟨X, 0, none⟩ v0).setCell ⟨X, 1, none⟩ v1).setCell ⟨X, 2, none⟩ v2) := Kpt.set _ _ _ _ _ (by simp)
 have h3 : ((((w.setCell ⟨X, 0, none⟩ v0).setCell ⟨X, 1, none⟩ v1).setCell ⟨X, 2, none⟩ v2).setCell ⟨X, 3, none⟩ v3).heap[X]? = some (.cells #[v0, v1, v2, v3, a4, a5, a6, a7, a8] T (0, 0)) := by rw [heap_setCell_same _ X 3 _ _ _ h2]; rfl
 have k3 : Kpt [X] (((w.setCell ⟨X, 0, none⟩ v0).setCell ⟨X, 1, none⟩ v1).setCell ⟨X, 2, none⟩ v2) ((((w.setCell ⟨X, 0, none⟩ v0).setCell ⟨X, 1, none⟩ v1).setCell ⟨X, 2, none⟩ v2).setCell ⟨X, 3, none⟩ v3) := Kpt.set _ _ _ _ _ (by simp)
 have h4 : (((((w.setCell ⟨X, 0, none⟩ v0).setCell ⟨X, 1, none⟩ v1).setCell ⟨X, 2, none⟩ v2).setCell ⟨X, 3, none⟩ v3).setCell ⟨X, 4, none⟩ v4).heap[X]? = some (.cells #[v0, v1, v2, v3, v4, a5, a6, a7, a8] T (0, 0)) := by rw [heap_setCell_same _ X 4 _ _ _ h3]; rfl
 have k4 : Kpt [X] ((((w.setCell ⟨X, 0, none⟩ v0).setCell ⟨X, 1, none⟩ v1).setCell ⟨X, 2, none⟩ v2).setCell ⟨X, 3, none⟩ v3) (((((w.setCell ⟨X, 0, none⟩ v0).setCell ⟨X, 1, none⟩ v1).setCell ⟨X, 2, none⟩ v2).setCell ⟨X, 3, none⟩ v3).setCell ⟨X, 4, none⟩ v4) := Kpt.set _ _ _ _ _ (by simp)
 have h5 : ((((((w.setCell ⟨X, 0, none⟩ v0).setCell ⟨X, 1, none⟩ v1).setCell ⟨X, 2, none⟩ v2).setCell ⟨X, 3, none⟩ v3).setCell ⟨X, 4, none⟩ v4).setCell ⟨X, 5, none⟩ v5).heap[X]? = some (.cells #[v0, v1, v2, v3, v4, v5, a6, a7, a8] T (0, 0)) := by rw [heap_setCell_same _ X 5 _ _ _ h4]; rfl
 have k5 : Kpt [X] (((((w.setCell ⟨X, 0, none⟩ v0).setCell ⟨X, 1, none⟩ v1).setCell ⟨X, 2, none⟩ v2).setCell ⟨X, 3, none⟩ v3).setCell ⟨X, 4, none⟩ v4) ((((((w.setCell ⟨X, 0, none⟩ v0).setCell ⟨X, 1, none⟩ v1).setCell ⟨X, 2, none⟩ v2).setCell ⟨X, 3, none⟩ v3).setCell ⟨X, 4, none⟩ v4).setCell ⟨X, 5, none⟩ v5) := Kpt.set _ _ _ _ _ (by simp)
 have h6 : (((((((w.setCell ⟨X, 0, none⟩ v0).setCell ⟨X, 1, none⟩ v1).setCell ⟨X, 2, none⟩ v2).setCell ⟨X, 3, none⟩ v3).setCell ⟨X, 4, none⟩ v4).setCell ⟨X, 5, none⟩ v5).setCell ⟨X, 6, none⟩ v6).heap[X]? = some (.cells #[v0, v1, v2, v3, v4, v5, v6, a7, a8] T (0, 0)) := by rw [heap_setCell_same _ X 6 _ _ _ h5]; rfl
 have k6 : Kpt [X] ((((((w.setCell ⟨X, 0, none⟩ v0).setCell ⟨X, 1, none⟩ v1).setCell ⟨X, 2, none⟩ v2).setCell ⟨X, 3, none⟩ v3).setCell ⟨X, 4, none⟩ v4).setCell ⟨X, 5, none⟩ v5) (((((((w.setCell ⟨X, 0, none⟩ v0).setCell ⟨X, 1, none⟩ v1).setCell ⟨X, 2, none⟩ v2).setCell ⟨X, 3, none⟩ v3).setCell ⟨X, 4, none⟩ v4).setCell ⟨X, 5, none⟩ v5).setCell ⟨X, 6, none⟩ v6) := Kpt.set _ _ _ _ _ (by simp)
 have h7 : ((((((((w.setCell ⟨X, 0, none⟩ v0).setCell ⟨X, 1, none⟩ v1).setCell ⟨X, 2, none⟩ v2).setCell ⟨X, 3, none⟩ v3).setCell ⟨X, 4, none⟩ v4).setCell ⟨X, 5, none⟩ v5).setCell ⟨X, 6, none⟩ v6).setCell ⟨X, 7, none⟩ v7).heap[X]? = some (.cells #[v0, v1, v2, v3, v4, v5, v6, v7, a8] T (0, 0)) := by rw [heap_setCell_same _ X 7 _ _ _ h6]; rfl
 have k7 : Kpt [X] (((((((w.setCell ⟨X, 0, none⟩ v0).setCell ⟨X, 1, none⟩ v1).setCell ⟨X, 2, none⟩ v2).setCell ⟨X, 3, none⟩ v3).setCell ⟨X, 4, none⟩ v4).setCell ⟨X, 5, none⟩ v5).setCell ⟨X, 6, none⟩ v6) ((((((((w.setCell ⟨X, 0, none⟩ v0).setCell ⟨X, 1, none⟩ v1).setCell ⟨X, 2, none⟩ v2).setCell ⟨X, 3, none⟩ v3).setCell ⟨X, 4, none⟩ v4).setCell ⟨X, 5, none⟩ v5).setCell ⟨X, 6, none⟩ v6).setCell ⟨X, 7, none⟩ v7) := Kpt.set _ _ _ _ _ (by simp)
 have h8 : (((((((((w.setCell ⟨X, 0, none⟩ v0).setCell ⟨X, 1, none⟩ v1).setCell ⟨X, 2, none⟩ v2).setCell ⟨X, 3, none⟩ v3).setCell ⟨X, 4, none⟩ v4).setCell ⟨X, 5, none⟩ v5).setCell ⟨X, 6, none⟩ v6).setCell ⟨X, 7, none⟩ v7).setCell ⟨X, 8, none⟩ v8).heap[X]? = some (.cells #[v0, v1, v2, v3, v4, v5, v6, v7, v8] T (0, 0)) := by rw [heap_setCell_same _ X 8 _ _ _ h7]; rfl
 have k8 : Kpt [X] ((((((((w.setCell ⟨X, 0, none⟩ v0).setCell ⟨X, 1, none⟩ v1).setCell ⟨X, 2, none⟩ v2).setCell ⟨X, 3, none⟩ v3).setCell ⟨X, 4, none⟩ v4).setCell ⟨X, 5, none⟩ v5).setCell ⟨X, 6, none⟩ v6).setCell ⟨X, 7, none⟩ v7) (((((((((w.setCell ⟨X, 0, none⟩ v0).setCell ⟨X, 1, none⟩ v1).setCell ⟨X, 2, none⟩ v2).setCell ⟨X, 3, none⟩ v3).setCell ⟨X, 4, none⟩ v4).setCell ⟨X, 5, none⟩ v5).setCell ⟨X, 6, none⟩ v6).setCell ⟨X, 7, none⟩ v7).setCell ⟨X, 8, none⟩ v8) := Kpt.set _ _ _ _ _ (by simp)
 exact ⟨h8, (Kpt.trans (Kpt.trans (Kpt.trans (Kpt.trans (Kpt.trans (Kpt.trans (Kpt.trans (Kpt.trans k0 k1 (fun _ h => .inl h)) k2 (fun _ h => .inl h)) k3 (fun _ h => .inl h)) k4 (fun _ h => .inl h)) k5 (fun _ h => .inl h)) k6 (fun _ h => .inl h)) k7 (fun _ h => .inl h)) k8 (fun _ h => .inl h))⟩
theorem Fs.fin {C : Cx} {a b c : World} {S : List Nat} (h : Fs C a b) (hX : ∀ x ∈ S, a.heap.size <= x) (k : Kpt S b c) : Fs C a c := by
 refine ⟨h.1.trans k.1, fun x hx hn => ?_⟩
 rw [k.2 x (Nat.lt_of_lt_of_le hx h.size) (fun hm => by have := hX x hm; omega)]
 exact h.2 x hx hn
theorem Kpt.snoc {S : List Nat} {a b : World} {X j : Nat} {u : Value} (h : Kpt S a b) (hX : X ∈ S) : Kpt S a (b.setCell ⟨X, j, none⟩ u) := Kpt.trans h (Kpt.set _ _ _ _ _ hX) (fun _ h => .inl h)
theorem set_keeps {X : Nat} {B : Nat} {a b : World} (k : Kpt [X] a b) (hX : X < B) : Keeps (fun x => B <= x) a b := .of_kpt k (fun x hx => by simp; omega)
theorem RdX.fs {α : Type} {sz : Nat} {P : Pv α} (hP : MonoG P) {C : Cx} {a b : World} {s : St} {B : Nat} {v : Value} {xs : List α} (h : RdX sz P (fun x => B <= x) a v xs) (hf : Fs C a b) (hs : Src a C s) (ht : C.top <= B) : RdX sz P (fun x => B <= x) b v xs :=
 h.step hP (fun _ h _ => h) ((hf.keeps hs).mono (fun x hx => Nat.le_trans ht hx)) hf.size
theorem RdX.fin {α : Type} {sz : Nat} {P : Pv α} (hP : MonoG P) {a b : World} {X B B0 : Nat} {v : Value} {xs : List α} (h : RdX sz P (fun x => B <= x) a v xs) (k : Kpt [X] a b) (hX : X < B) (h0 : B0 <= B) : RdX sz P (fun x => B0 <= x) b v xs :=
 h.step hP (fun _ h _ => Nat.le_trans h0 h) (set_keeps k hX) k.size
theorem OwnX.slice {α : Type} {sz : Nat} {T : TypeId} {P : Pv α} {w : World} {B : Nat} {v : Value} {xs : List α} (h : OwnX sz T P w B v xs) : ∃ p n c, v = .slice p n c := by
 obtain ⟨cs, h1, _⟩ := h
 rcases h1.2 with ⟨rfl, hn⟩ | ⟨g, cap, cur, rfl, hb, hg, hle, _⟩
 ·exact ⟨_, _, _, rfl⟩
 ·exact ⟨_, _, _, rfl⟩
theorem boxT (w : World) (k : Int) (c : ByteArray) :
  Below w.heap.size w (w.alloc (.cells #[.int .i64 k, .string c] 55)) /\ (w.alloc (.cells #[.int .i64 k, .string c] 55)).heap[w.heap.size]? = some (.cells [.int .i64 k, .string c].toArray 55 (0, 0)) :=
 ⟨(Below.refl _ _).alloc (Nat.le_refl _) _, heap_alloc_new _ _⟩
theorem one_eq (n : Nat) : ((n : Int) == 1) = decide (n = 1) := by
 by_cases h : n = 1
 ·subst h; rfl
 ·rw [decide_eq_false h]; exact beq_eq_false_iff_ne.2 (by omega)
theorem right_small {k : Int} {c : ByteArray} (h : rightB k c = true) : c.size <= 64 := by
 unfold rightB at h
 split at h
 ·exact name_size h
 ·simp only [Bool.and_eq_true, decide_eq_true_eq] at h; omega
theorem parseR_small {l : List UInt8} {ps : List Ty} {t : Ty} {ok : Bool} (h : parseR l = (ps, t, ok)) : (∀ u ∈ ps, u.2.size <= 64) /\ t.2.size <= 64 /\ ps.length <= 8 := by
 cases ok with
 | true =>
  obtain ⟨h1, h2, h3, h4⟩ := parseR_text h
  exact ⟨fun u hu => right_small (h2 u hu).1, right_small h4, h3⟩
 | false =>
  have : ps = [] /\ t = t0 := by
   unfold parseR at h
   split at h
   ·split at h
    ·simp at h
    ·simp only [Prod.mk.injEq] at h
     exact ⟨h.1.symm, h.2.1.symm⟩
   ·simp only [Prod.mk.injEq] at h
    exact ⟨h.1.symm, h.2.1.symm⟩
  obtain ⟨rfl, rfl⟩ := this
  exact ⟨fun u hu => by simp at hu, by show (0 : Nat) <= 64; decide, by simp⟩
theorem ownX_of_T {w : World} {B : Nat} {v : Value} {ts : List Ty} (h : OwnT w B v ts) : OwnX 2 55 (sP tyC) w B v ts := by
 refine ⟨tyCells ts, h, fun i x hx => ?_⟩
 show _ = tyC x
 have key : ∀ (l : List Ty) (i : Nat), l[i]? = some x -> ((tyCells l).drop (i * 2)).take 2 = tyC x := by
  intro l
  induction l with
  | nil => intro i h; simp at h
  | cons a l ih =>
   intro i hi
   cases i with
   | zero =>
    simp only [List.getElem?_cons_zero, Option.some.injEq] at hi
    subst hi
    rfl
   | succ i =>
    have := ih i (by simpa using hi)
    rw [Nat.succ_mul, Nat.add_comm, <- List.drop_drop]
    exact this
 exact key ts i hx
theorem handler_s (C : Cx) (s0 : St) (w : World) (h : Src w C s0) (_hg : Glob w) : Calls Tryz.prog 149 #[.pointer (some ⟨C.sb, 0, none⟩)] w (TookX C (sP hndC) gH (pHnd C.L) s0 w) := by
 have hb0 : Below w.heap.size w (w.alloc (.cells #[.int .i64 0, .int .i64 0, .int .i64 0, .string ⟨#[]⟩] 66)).drew := ((Below.refl _ _).alloc (Nat.le_refl _) _).drew
 have hs0 := h.below hb0
 have ht := h.top
 have hx0 : (w.alloc (.cells #[.int .i64 0, .int .i64 0, .int .i64 0, .string ⟨#[]⟩] 66)).drew.heap[w.heap.size]? = some (.cells #[.int .i64 0, .int .i64 0, .int .i64 0, .string ⟨#[]⟩] 66 (0, 0)) := heap_alloc_new _ _
 have F0 : Fs C w (w.alloc (.cells #[.int .i64 0, .int .i64 0, .int .i64 0, .string ⟨#[]⟩] 66)).drew := .of_below hb0
 obtain ⟨q1, q2, c0, c1, f2⟩ := hs0.cells
 obtain ⟨-, b0, -⟩ := boxN hx0
 go_enter Tryz.func149, Tryz.ntmps149
 go_wp2_with fail
 refine wp_region_held_drew (S := fun w' => w'.cell? ⟨C.sb, 0, none⟩ = some (.pointer (some ⟨C.rb, 0, none⟩))) (by kernel_rfl) c0 (fun hh => ?_)
 refine tkA 0 _ hh ?_
 try go_frame
 refine tkA 1 _ hh ?_
 try go_frame
 refine tkA 2 _ hh ?_
 try go_frame
 refine tkB 3 _ hh ?_
 try go_frame
 refine tkA 5 _ hh ?_
 try go_frame
 refine tkA 6 _ hh ?_
 try go_frame
 refine tkA 7 _ hh ?_
 try go_frame
 refine tkB 8 _ hh ?_
 try go_frame
 refine tkA 10 _ hh ?_
 try go_frame
 refine tkA 11 _ hh ?_
 try go_frame
 refine tkA 12 _ hh ?_
 try go_frame
 refine tkB 13 _ hh ?_
 try go_frame
 refine tkA 15 _ hh ?_
 try go_frame
 refine rdH [4] ?_
 refine rcH (fun K hK => ?_) AllReadyH.nil
 clear hh
 go_simp
 refine (num_s C s0 2000 _ _ hs0 (by rfl) (by decide)).mono ?_
 rintro r w1 ⟨n1, s1, rfl, hn1, t1, hs1, hf1⟩
 have hx1 := hf1.box hs0 ht hx0
 have HT1 := hid t1
 have F1 := F0.trans hf1
 clear t1
 obtain ⟨q1_1, q2_1, c0_1, c1_1, f2_1⟩ := hs1.cells
 obtain ⟨hl1, hcs1, hfz1⟩ := boxN hx1
 have y1_0 := hcs1 0 _ rfl
 have y1_1 := hcs1 1 _ rfl
 have y1_2 := hcs1 2 _ rfl
 have y1_3 := hcs1 3 _ rfl
 have z1_0 := hfz1 0
 have z1_1 := hfz1 1
 have z1_2 := hfz1 2
 have z1_3 := hfz1 3
 simp only [Nat.zero_add] at y1_0 y1_1 y1_2 y1_3
 refine hK.out _ _ c0_1 (fun hh => ?_)
 clear hK K
 try go_frame
 refine rdH [9] ?_
 refine rcH (fun K hK => ?_) AllReadyH.nil
 clear hh
 go_simp
 refine (num_s C s1 2000 _ _ hs1 (by rfl) (by decide)).mono ?_
 rintro r w2 ⟨n2, s2, rfl, hn2, t2, hs2, hf2⟩
 have hx2 := hf2.box hs1 ht hx1
 have HT2 := hid t2
 have F2 := F1.trans hf2
 clear t2
 obtain ⟨q1_2, q2_2, c0_2, c1_2, f2_2⟩ := hs2.cells
 obtain ⟨hl2, hcs2, hfz2⟩ := boxN hx2
 have y2_0 := hcs2 0 _ rfl
 have y2_1 := hcs2 1 _ rfl
 have y2_2 := hcs2 2 _ rfl
 have y2_3 := hcs2 3 _ rfl
 have z2_0 := hfz2 0
 have z2_1 := hfz2 1
 have z2_2 := hfz2 2
 have z2_3 := hfz2 3
 simp only [Nat.zero_add] at y2_0 y2_1 y2_2 y2_3
 refine hK.out _ _ c0_2 (fun hh => ?_)
 clear hK K
 try go_frame
 refine rdH [14] ?_
 refine rcH (fun K hK => ?_) AllReadyH.nil
 clear hh
 go_simp
 refine (num_s C s2 2000 _ _ hs2 (by rfl) (by decide)).mono ?_
 rintro r w3 ⟨n3, s3, rfl, hn3, t3, hs3, hf3⟩
 have hx3 := hf3.box hs2 ht hx2
 have HT3 := hid t3
 have F3 := F2.trans hf3
 clear t3
 obtain ⟨q1_3, q2_3, c0_3, c1_3, f2_3⟩ := hs3.cells
 obtain ⟨hl3, hcs3, hfz3⟩ := boxN hx3
 have y3_0 := hcs3 0 _ rfl
 have y3_1 := hcs3 1 _ rfl
 have y3_2 := hcs3 2 _ rfl
 have y3_3 := hcs3 3 _ rfl
 have z3_0 := hfz3 0
 have z3_1 := hfz3 1
 have z3_2 := hfz3 2
 have z3_3 := hfz3 3
 simp only [Nat.zero_add] at y3_0 y3_1 y3_2 y3_3
 refine hK.out _ _ c0_3 (fun hh => ?_)
 clear hK K
 try go_frame
 refine rdH [16] ?_
 refine rcH (fun K hK => ?_) AllReadyH.nil
 clear hh
 go_simp
 refine (text_s C s3 _ hs3).mono ?_
 rintro r w4 ⟨n4, s4, rfl, hn4, t4, hs4, hf4⟩
 have hx4 := hf4.box hs3 ht hx3
 have HT4 := hid t4
 have F4 := F3.trans hf4
 clear t4
 obtain ⟨q1_4, q2_4, c0_4, c1_4, f2_4⟩ := hs4.cells
 obtain ⟨hl4, hcs4, hfz4⟩ := boxN hx4
 have y4_0 := hcs4 0 _ rfl
 have y4_1 := hcs4 1 _ rfl
 have y4_2 := hcs4 2 _ rfl
 have y4_3 := hcs4 3 _ rfl
 have z4_0 := hfz4 0
 have z4_1 := hfz4 1
 have z4_2 := hfz4 2
 have z4_3 := hfz4 3
 simp only [Nat.zero_add] at y4_0 y4_1 y4_2 y4_3
 refine hK.out _ _ c0_4 (fun hh => ?_)
 clear hK K
 try go_frame
 refine tkA 17 _ hh ?_
 try go_frame
 refine rdH [18] ?_
 refine rcH (fun K hK => ?_) AllReadyH.nil
 clear hh
 go_simp
 have hSrc := fun {x0 x1 x2 x3 : Value} => hs4.kpt (set4 (v0 := x0) (v1 := x1) (v2 := x2) (v3 := x3) hx4).2 (fun x hx => by simp; omega)
 refine hK.out _ _ hSrc.cells.2.2.1 (fun hh => ?_)
 clear hK K
 try go_frame
 refine wpAnyH_done (by kernel_rfl) ?_ _
 go_wp2_with fail
 refine bodyPost_ret (v := .agg (hndC ((n1 : Int), (n2 : Int), (n3 : Int), n4)).toArray) (by simp [results, Tryz.results149, go_sem, hndC, y4_0, y4_1, y4_2, y4_3]) rfl ⟨_, ((n1 : Int), (n2 : Int), (n3 : Int), n4), s4, rfl, rfl, (show n4.size <= 100000 by omega), took_pb HT1.out (took_pb HT2.out (took_pb HT3.out (took_map HT4.out))), hSrc, ?_⟩
 exact Fs.fin F4 (fun x hx => by simp at hx; omega) (set4 hx4).2
theorem field_s (C : Cx) (hB0 : 0 < C.B) (s0 : St) (w : World) (h : Src w C s0) (hg : Glob w) : Calls Tryz.prog 101 #[.pointer (some ⟨C.sb, 0, none⟩)] w (TookX C (sP fldC) gF (pFld C.L) s0 w) := by
 have hb0 : Below w.heap.size w (w.alloc (.cells #[.string ⟨#[]⟩, .int .i64 0, .string ⟨#[]⟩, .bool false] 63)) := ((Below.refl _ _).alloc (Nat.le_refl _) _)
 have hs0 := h.below hb0
 have ht := h.top
 have hx0 : (w.alloc (.cells #[.string ⟨#[]⟩, .int .i64 0, .string ⟨#[]⟩, .bool false] 63)).heap[w.heap.size]? = some (.cells #[.string ⟨#[]⟩, .int .i64 0, .string ⟨#[]⟩, .bool false] 63 (0, 0)) := heap_alloc_new _ _
 have F0 : Fs C w (w.alloc (.cells #[.string ⟨#[]⟩, .int .i64 0, .string ⟨#[]⟩, .bool false] 63)) := .of_below hb0
 obtain ⟨q1, q2, c0, c1, f2⟩ := hs0.cells
 obtain ⟨-, b0, -⟩ := boxN hx0
 go_enter Tryz.func101, Tryz.ntmps101
 go_wp2_with fail
 refine (text_s C s0 _ hs0).mono ?_
 rintro r w1 ⟨n1, s1, rfl, hn1, t1, hs1, hf1⟩
 have hx1 := hf1.box hs0 ht hx0
 have HT1 := hid t1
 have F1 := F0.trans hf1
 clear t1
 obtain ⟨q1_1, q2_1, c0_1, c1_1, f2_1⟩ := hs1.cells
 obtain ⟨hl1, hcs1, hfz1⟩ := boxN hx1
 have y1_0 := hcs1 0 _ rfl
 have y1_1 := hcs1 1 _ rfl
 have y1_2 := hcs1 2 _ rfl
 have y1_3 := hcs1 3 _ rfl
 have z1_0 := hfz1 0
 have z1_1 := hfz1 1
 have z1_2 := hfz1 2
 have z1_3 := hfz1 3
 simp only [Nat.zero_add] at y1_0 y1_1 y1_2 y1_3
 go_wp2_with fail
 refine (text_s C s1 _ hs1).mono ?_
 rintro r w2 ⟨n2, s2, rfl, hn2, t2, hs2, hf2⟩
 have hx2 := hf2.box hs1 ht hx1
 have HT2 := hid t2
 have F2 := F1.trans hf2
 clear t2
 obtain ⟨q1_2, q2_2, c0_2, c1_2, f2_2⟩ := hs2.cells
 obtain ⟨hl2, hcs2, hfz2⟩ := boxN hx2
 have y2_0 := hcs2 0 _ rfl
 have y2_1 := hcs2 1 _ rfl
 have y2_2 := hcs2 2 _ rfl
 have y2_3 := hcs2 3 _ rfl
 have z2_0 := hfz2 0
 have z2_1 := hfz2 1
 have z2_2 := hfz2 2
 have z2_3 := hfz2 3
 simp only [Nat.zero_add] at y2_0 y2_1 y2_2 y2_3
 obtain ⟨⟨k, c⟩, ok, hR⟩ : ∃ t ok, oneR n2.data.toList = (t, ok) := ⟨_, _, rfl⟩
 have hcs : c.size <= n2.size := by have := oneR_size (x := n2); rw [hR] at this; exact this
 have HR := hid hR
 go_wp2_with fail
 refine (one_at hR _ (glob_fs hg F2 hB0 h.low) (by omega)).mono ?_
 rintro e wA ⟨rfl, hbA⟩
 clear hR
 rw [show tyv (k, c) = .agg #[.int .i64 k, .string c] from rfl]
 obtain ⟨hbB, hyB⟩ := boxT wA k c
 have hty : C.top <= wA.heap.size := Nat.le_trans ht (Nat.le_trans F2.size hbA.size)
 have hs3 := ((hs2.below hbA).below hbB).drew
 have hx3 := Below.box hbB (Below.box hbA hx2)
 have hy3 := hyB
 have hne : w.heap.size < wA.heap.size := Nat.lt_of_lt_of_le hl2 hbA.size
 have F3 := ((F2.trans (.of_below hbA)).trans (.of_below hbB)).trans (Fs.drew C _)
 obtain ⟨q1_3, q2_3, c0_3, c1_3, f2_3⟩ := hs3.cells
 obtain ⟨hl3, hcs3, hfz3⟩ := boxN hx3
 have y3_0 := hcs3 0 _ rfl
 have y3_1 := hcs3 1 _ rfl
 have y3_2 := hcs3 2 _ rfl
 have y3_3 := hcs3 3 _ rfl
 have z3_0 := hfz3 0
 have z3_1 := hfz3 1
 have z3_2 := hfz3 2
 have z3_3 := hfz3 3
 simp only [Nat.zero_add] at y3_0 y3_1 y3_2 y3_3
 obtain ⟨yl3, yc3, yf3⟩ := boxN hy3
 have u3_0 := yc3 0 _ rfl
 have u3_1 := yc3 1 _ rfl
 have v3_0 := yf3 0
 have v3_1 := yf3 1
 simp only [Nat.zero_add] at u3_0 u3_1
 go_wp2_with fail
 refine wp_region_held_drew (S := fun w' => w'.cell? ⟨C.sb, 0, none⟩ = some (.pointer (some ⟨C.rb, 0, none⟩)) /\ w'.cell? ⟨wA.heap.size, 0, none⟩ = some (.int .i64 k) /\ w'.cell? ⟨wA.heap.size, 1, none⟩ = some (.string c)) (by kernel_rfl) ⟨c0_3, u3_0, u3_1⟩ (fun hh => ?_)
 refine tkA 0 _ hh ?_
 try go_frame
 refine tkB 1 _ hh ?_
 try go_frame
 refine tkA 2 _ hh ?_
 try go_frame
 refine tkA 3 _ hh ?_
 try go_frame
 refine tkA 4 _ hh ?_
 try go_frame
 refine tkB 5 _ hh ?_
 try go_frame
 refine rdH [6] ?_
 refine rcH (fun K hK => ?_) AllReadyH.nil
 clear hh
 go_simp
 refine (num_s C s2 1 _ _ hs3 (by rfl) (by decide)).mono ?_
 rintro r w4 ⟨n4, s4, rfl, hn4, t4, hs4, hf4⟩
 have hx4 := hf4.box hs3 ht hx3
 have HT4 := hid t4
 have F4 := F3.trans hf4
 clear t4
 have hy4 := hf4.box hs3 hty hy3
 obtain ⟨q1_4, q2_4, c0_4, c1_4, f2_4⟩ := hs4.cells
 obtain ⟨hl4, hcs4, hfz4⟩ := boxN hx4
 have y4_0 := hcs4 0 _ rfl
 have y4_1 := hcs4 1 _ rfl
 have y4_2 := hcs4 2 _ rfl
 have y4_3 := hcs4 3 _ rfl
 have z4_0 := hfz4 0
 have z4_1 := hfz4 1
 have z4_2 := hfz4 2
 have z4_3 := hfz4 3
 simp only [Nat.zero_add] at y4_0 y4_1 y4_2 y4_3
 obtain ⟨yl4, yc4, yf4⟩ := boxN hy4
 have u4_0 := yc4 0 _ rfl
 have u4_1 := yc4 1 _ rfl
 have v4_0 := yf4 0
 have v4_1 := yf4 1
 simp only [Nat.zero_add] at u4_0 u4_1
 refine hK.out _ _ ⟨c0_4, u4_0, u4_1⟩ (fun hh => ?_)
 clear hK K
 try go_frame
 refine tkA 7 _ hh ?_
 try go_frame
 refine tkA 8 _ hh ?_
 try go_frame
 refine rdH [9] ?_
 refine rcH (fun K hK => ?_) AllReadyH.nil
 clear hh
 go_simp
 have hSrc := fun {x0 x1 x2 x3 : Value} => hs4.kpt (set4 (v0 := x0) (v1 := x1) (v2 := x2) (v3 := x3) hx4).2 (fun x hx => by simp; omega)
 have hY := fun {x0 x1 x2 x3 : Value} => boxN (((set4 (v0 := x0) (v1 := x1) (v2 := x2) (v3 := x3) hx4).2.2 _ yl4 (by simp; omega)).trans hy4)
 refine hK.out _ _ ⟨hSrc.cells.2.2.1, hY.2.1 0 _ rfl, hY.2.1 1 _ rfl⟩ (fun hh => ?_)
 clear hK K
 try go_frame
 refine wpAnyH_done (by kernel_rfl) ?_ _
 go_wp2_with fail
 refine bodyPost_ret (v := .agg (fldC (n1, (k, c), decide (n4 = 1))).toArray) (by simp [results, Tryz.results101, go_sem, fldC, y4_0, y4_1, y4_2, y4_3, one_eq n4]) rfl ⟨_, (n1, (k, c), decide (n4 = 1)), s4, rfl, rfl, ⟨(show n1.size <= 100000 by omega), (show c.size <= 100000 by omega)⟩, took_pb HT1.out (took_pb HT2.out ?_), hSrc, ?_⟩
 ·rw [HR.out]; exact took_map HT4.out
 ·exact Fs.fin F4 (fun x hx => by simp at hx; omega) (set4 hx4).2
end Go.Proofs.YtijnimjmimeefaaGreat.A
namespace Go.Proofs.YtijnimjmimeefaaGreat.A
open Go.RowKit Go.Proofs.YtijnimjmimeefaaGreat.D Go.Proofs.YtijnimjmimeefaaGreat.O
def InsAns (x : Ins) (w : World) (e : Ending) (w' : World) : Prop := e = .returned (insV x) /\ Below w.heap.size w w'
theorem one_v (o : Int) (w : World) : Calls Tryz.prog 31 #[.int .i64 o] w (InsAns (iOne o) w) := by
 go_enter Tryz.func31, Tryz.ntmps31
 go_wp2
 refine bodyPost_ret (v := insV (iOne o)) (by simp [results, Tryz.results31, go_sem, insV, iOne, es]) rfl ⟨rfl, ?_⟩
 exact (Below.refl _ _).alloc (Nat.le_refl _) _
theorem at_v (o k : Int) (w : World) : Calls Tryz.prog 32 #[.int .i64 o, .int .i64 k] w (InsAns (iAt o k) w) := by
 go_enter Tryz.func32, Tryz.ntmps32
 go_wp2
 refine bodyPost_ret (v := insV (iAt o k)) (by simp [results, Tryz.results32, go_sem, insV, iAt, es]) rfl ⟨rfl, ?_⟩
 exact (Below.refl _ _).alloc (Nat.le_refl _) _
theorem num_v (n : Int) (w : World) (hn : -2147483648 <= n /\ n <= 2147483647) : Calls Tryz.prog 62 #[.int .i64 n] w (InsAns (iNum n) w) := by
 go_enter Tryz.func62, Tryz.ntmps62
 go_wp2
 refine bodyPost_ret (v := insV (iNum n)) (by simp [results, Tryz.results62, go_sem, insV, iNum, es]) rfl ⟨rfl, ?_⟩
 exact (Below.refl _ _).alloc (Nat.le_refl _) _
theorem str_v (s : ByteArray) (w : World) : Calls Tryz.prog 63 #[.string s] w (InsAns (iStr s) w) := by
 go_enter Tryz.func63, Tryz.ntmps63
 go_wp2
 refine bodyPost_ret (v := insV (iStr s)) (by simp [results, Tryz.results63, go_sem, insV, iStr, es]) rfl ⟨rfl, ?_⟩
 exact (Below.refl _ _).alloc (Nat.le_refl _) _
theorem of_v (o : Int) (c : ByteArray) (w : World) : Calls Tryz.prog 30 #[.int .i64 o, .string c] w (InsAns (iOf o c) w) := by
 go_enter Tryz.func30, Tryz.ntmps30
 go_wp2
 refine bodyPost_ret (v := insV (iOf o c)) (by simp [results, Tryz.results30, go_sem, insV, iOf, es]) rfl ⟨rfl, ?_⟩
 exact (Below.refl _ _).alloc (Nat.le_refl _) _
theorem part_v (o : Int) (c m : ByteArray) (w : World) : Calls Tryz.prog 68 #[.int .i64 o, .string c, .string m] w (InsAns (iPart o c m) w) := by
 go_enter Tryz.func68, Tryz.ntmps68
 go_wp2
 refine bodyPost_ret (v := insV (iPart o c m)) (by simp [results, Tryz.results68, go_sem, insV, iPart, es]) rfl ⟨rfl, ?_⟩
 exact (Below.refl _ _).alloc (Nat.le_refl _) _
theorem call_v (o : Int) (c m d : ByteArray) (w : World) : Calls Tryz.prog 67 #[.int .i64 o, .string c, .string m, .string d] w (InsAns (iCall o c m d) w) := by
 go_enter Tryz.func67, Tryz.ntmps67
 go_wp2
 refine bodyPost_ret (v := insV (iCall o c m d)) (by simp [results, Tryz.results67, go_sem, insV, iCall, es]) rfl ⟨rfl, ?_⟩
 exact (Below.refl _ _).alloc (Nat.le_refl _) _
def BdP (w : World) (B bb : Nat) (vl vh : Value) (st : BS) : Prop :=
 w.heap[bb]? = some (.cells #[vl, vh] 130 (0, 0)) /\ B <= bb /\ OwnX 7 61 (sP insC) w B vl st.1 /\ OwnX 4 66 (sP hndC) w B vh st.2 /\
 vl.ownBlock ≠ some bb /\ vh.ownBlock ≠ some bb /\ (∀ g, vl.ownBlock = some g -> vh.ownBlock ≠ some g)
def Bd (w : World) (B bb : Nat) (st : BS) : Prop := ∃ vl vh, BdP w B bb vl vh st
theorem OwnX.kptS {α : Type} {sz : Nat} {T : TypeId} {c : α -> List Value} {w w' : World} {B : Nat} {v : Value} {xs : List α} {S : List Nat} (h : OwnX sz T (sP c) w B v xs) (hk : Kpt S w w') (hS : ∀ g, v.ownBlock = some g -> g ∉ S) : OwnX sz T (sP c) w' B v xs := by
 obtain ⟨cs, h1, h2⟩ := h
 have hlt := World.ownsRow.lt h1
 refine ⟨cs, ⟨h1.1, ?_⟩, h2⟩
 rcases h1.2 with hn | ⟨g, cap, cur, rfl, hb, hg, rest⟩
 ·exact .inl hn
 ·exact .inr ⟨g, cap, cur, rfl, hb, by rw [hk.2 g (hlt g rfl).2 (hS g rfl)]; exact hg, rest⟩
theorem BdP.lt {w : World} {B bb : Nat} {vl vh : Value} {st : BS} (h : BdP w B bb vl vh st) : bb < w.heap.size := (Array.getElem?_eq_some_iff.1 h.1).1
theorem BdP.cells {w : World} {B bb : Nat} {vl vh : Value} {st : BS} (h : BdP w B bb vl vh st) : bb < w.heap.size /\ w.cell? ⟨bb, 0, none⟩ = some vl /\ w.cell? ⟨bb, 1, none⟩ = some vh /\ w.frozen? ⟨bb, 0, none⟩ = false /\ w.frozen? ⟨bb, 1, none⟩ = false := by
 refine ⟨h.lt, ?_, ?_, ?_, ?_⟩ <;> simp [World.cell?, World.frozen?, h.1]
theorem BdP.below {w w' : World} {B bb : Nat} {vl vh : Value} {st : BS} (h : BdP w B bb vl vh st) (hb : Below w.heap.size w w') : BdP w' B bb vl vh st := by
 have hlt := h.lt
 obtain ⟨h1, h2, h3, h4, h5, h6, h7⟩ := h
 have hk : Kpt [] w w' := .of_below hb
 exact ⟨(hb.block bb hlt).trans h1, h2, h3.kptS hk (fun _ _ => by simp), h4.kptS hk (fun _ _ => by simp), h5, h6, h7⟩
theorem Bd.below {w w' : World} {B bb : Nat} {st : BS} (h : Bd w B bb st) (hb : Below w.heap.size w w') : Bd w' B bb st := by
 obtain ⟨vl, vh, h⟩ := h
 exact ⟨vl, vh, h.below hb⟩
def Built (B bb : Nat) (st : BS) (w : World) (e : Ending) (w' : World) : Prop := e = .returned (.tuple #[]) /\ Bd w' B bb st /\ Below B w w'
theorem rdX_lits {α : Type} {sz : Nat} {c : α -> List Value} (hsz : ∀ x, (c x).length = sz) (w : World) (ys : List α) (cs : Array Value) (T : TypeId) (h : cs.toList = ys.flatMap c) :
  RdX sz (sP c) anyB (w.alloc (.cells cs T)) (.slice (some ⟨w.heap.size, 0, none⟩) ys.length ys.length) ys := by
 refine ⟨_, _, rfl, Nat.le_refl _, (fun h => by cases h), .inr ⟨_, _, rfl, trivial, by simp, fun i x hx => ⟨_, rfl, fun j u hu => ?_⟩⟩⟩
 have key : ∀ (l : List α) (i : Nat), l[i]? = some x -> (l.flatMap c)[i * sz + j]? = some u := by
  intro l
  induction l with
  | nil => intro i h; simp at h
  | cons a l ih =>
   intro i hi
   rw [List.flatMap_cons]
   cases i with
   | zero =>
    simp only [List.getElem?_cons_zero, Option.some.injEq] at hi
    subst hi
    rw [Nat.zero_mul, Nat.zero_add, List.getElem?_append_left (List.getElem?_eq_some_iff.1 hu).1]
    exact hu
   | succ i =>
    rw [List.getElem?_append_right (by rw [hsz, Nat.succ_mul]; omega), hsz, Nat.succ_mul, show i * sz + sz + j - sz = i * sz + j by omega]
    exact ih i (by simpa using hi)
 have := key ys i hx
 rw [<- h] at this
 rw [Array.getElem?_toList] at this
 simp [Nat.zero_add, this]
theorem insC_len (x : Ins) : (insC x).length = 7 := rfl
theorem hndC_len (x : Hnd) : (hndC x).length = 4 := rfl
theorem BdP.setL {w w1 : World} {B bb : Nat} {vl vh v' : Value} {st : BS} {L : List Ins} (h : BdP w B bb vl vh st) (hB : B <= w.heap.size) (ho : OwnX 7 61 (sP insC) w1 B v' L) (hg : w.grownBy w1 vl.ownBlock) (hl : v'.ownBlock = vl.ownBlock ∨ v'.ownBlock = some w.heap.size) :
  bb < w1.heap.size /\ w1.cell? ⟨bb, 0, none⟩ = some vl /\ w1.frozen? ⟨bb, 0, none⟩ = false /\ Bd (w1.setCell ⟨bb, 0, none⟩ v') B bb (L, st.2) /\ Below B w (w1.setCell ⟨bb, 0, none⟩ v') := by
 have hlt := h.lt
 obtain ⟨h1, h2, h3, h4, h5, h6, h7⟩ := h
 have hw1 : w1.heap[bb]? = some (.cells #[vl, vh] 130 (0, 0)) := by rw [hg.block bb hlt (fun e => h5 e.symm)]; exact h1
 have k1 : Kpt vl.ownBlock.toList w w1 := .of_grown hg (fun g e => .inl (by rw [e]; simp))
 have k2 : Kpt [bb] w1 (w1.setCell ⟨bb, 0, none⟩ v') := Kpt.set _ _ _ _ _ (by simp)
 have hne : v'.ownBlock ≠ some bb := by
  rcases hl with e | e
  ·rw [e]; exact h5
  ·rw [e]; simp only [ne_eq, Option.some.injEq]; omega
 refine ⟨Nat.lt_of_lt_of_le hlt hg.size, by simp [World.cell?, hw1], by simp [World.frozen?, hw1], ⟨v', vh, ?_, h2, ho.kptS k2 (fun g e => by simp; rintro rfl; exact hne e), (h4.kptS k1 (fun g e => by simp; intro e'; exact h7 g e' e)).kptS k2 (fun g e => by simp; rintro rfl; exact h6 e), hne, h6, fun g e => ?_⟩, ?_⟩
 ·rw [heap_setCell_same w1 bb 0 _ _ _ hw1]; rfl
 ·rcases hl with e' | e'
  ·exact h7 g (e' ▸ e)
  ·rw [e'] at e
   cases e
   intro e2
   have := (h4.lt _ e2).2
   omega
 ·have b1 : Below B w w1 := ⟨hg.os, hg.tape, hg.output, hg.size, fun k hk => hg.block k (by omega) (fun e => by have := (h3.lt k e.symm).1; omega)⟩
  exact b1.trans (k2.below (fun x hx => by simp at hx; omega) (Nat.le_trans hB hg.size))
theorem BdP.setH {w w1 : World} {B bb : Nat} {vl vh v' : Value} {st : BS} {L : List Hnd} (h : BdP w B bb vl vh st) (hB : B <= w.heap.size) (ho : OwnX 4 66 (sP hndC) w1 B v' L) (hg : w.grownBy w1 vh.ownBlock) (hl : v'.ownBlock = vh.ownBlock ∨ v'.ownBlock = some w.heap.size) :
  bb < w1.heap.size /\ w1.cell? ⟨bb, 1, none⟩ = some vh /\ w1.frozen? ⟨bb, 1, none⟩ = false /\ Bd (w1.setCell ⟨bb, 1, none⟩ v') B bb (st.1, L) /\ Below B w (w1.setCell ⟨bb, 1, none⟩ v') := by
 have hlt := h.lt
 obtain ⟨h1, h2, h3, h4, h5, h6, h7⟩ := h
 have hw1 : w1.heap[bb]? = some (.cells #[vl, vh] 130 (0, 0)) := by rw [hg.block bb hlt (fun e => h6 e.symm)]; exact h1
 have k1 : Kpt vh.ownBlock.toList w w1 := .of_grown hg (fun g e => .inl (by rw [e]; simp))
 have k2 : Kpt [bb] w1 (w1.setCell ⟨bb, 1, none⟩ v') := Kpt.set _ _ _ _ _ (by simp)
 have hne : v'.ownBlock ≠ some bb := by
  rcases hl with e | e
  ·rw [e]; exact h6
  ·rw [e]; simp only [ne_eq, Option.some.injEq]; omega
 refine ⟨Nat.lt_of_lt_of_le hlt hg.size, by simp [World.cell?, hw1], by simp [World.frozen?, hw1], ⟨vl, v', ?_, h2, (h3.kptS k1 (fun g e => by simp; exact h7 g e)).kptS k2 (fun g e => by simp; rintro rfl; exact h5 e), ho.kptS k2 (fun g e => by simp; rintro rfl; exact hne e), h5, hne, fun g e => ?_⟩, ?_⟩
 ·rw [heap_setCell_same w1 bb 1 _ _ _ hw1]; rfl
 ·rcases hl with e' | e'
  ·rw [e']; exact h7 g e
  ·rw [e']
   have := (h3.lt _ e).2
   simp only [ne_eq, Option.some.injEq]
   omega
 ·have b1 : Below B w w1 := ⟨hg.os, hg.tape, hg.output, hg.size, fun k hk => hg.block k (by omega) (fun e => by have := (h4.lt k e.symm).1; omega)⟩
  exact b1.trans (k2.below (fun x hx => by simp at hx; omega) (Nat.le_trans hB hg.size))
theorem wp_appM {α : Type} {sz bytes : Nat} {T TS : TypeId} {z : Value} (hI : Inf T TS sz bytes z) {c : α -> List Value} (hS : Shape (sP c) sz) {w : World} {ops : Array Oper} {rest : List Oper} {o : Oper} {a : Act} {Q : Exit -> Act -> World -> Prop} (hgd : o.guard = none) (s x : Operand)
  (ho : o.op = .call { callee := .builtin .append, args := #[s, x], argTypes := #[TS, TS] })
  (B : Nat) (v : Value) (xs : List α) (hs : a.eval s = v) (hown : OwnX sz T (sP c) w B v xs) (g off n cap : Nat) (ys : List α) (hx : a.eval x = .slice (some ⟨g, off, none⟩) n cap) (hr : RdX sz (sP c) anyB w (.slice (some ⟨g, off, none⟩) n cap) ys)
  (hb : xs.length + ys.length <= 1000000) (hbase : B <= w.heap.size)
  (h : ∀ v' w', OwnX sz T (sP c) w' B v' (xs ++ ys) -> w.grownBy w' v.ownBlock -> (v'.ownBlock = v.ownBlock ∨ v'.ownBlock = some w.heap.size) -> wpList Tryz.prog ops Q rest (a.put o.dst v') w') :
  wpList Tryz.prog ops Q (o :: rest) a w := by
 refine wpList_plain hgd fun K hK => ?_
 obtain ⟨p', cap', e, h1, h2, h3⟩ := hr
 simp only [Value.slice.injEq] at e
 obtain ⟨rfl, rfl, rfl⟩ := e
 obtain ⟨v', w', hrun, g1, g2, g4⟩ := run_appX hI (sP.grow c) hS w B v xs ys hown ⟨g, off, none⟩ cap (fun i u hu => by
  rcases h3 with rfl | ⟨b, off', e, _, _, hc⟩
  ·simp at hu
  ·simp only [Option.some.injEq, Addr.mk.injEq, and_true] at e
   obtain ⟨rfl, rfl⟩ := e
   obtain ⟨vs, hv, hcell⟩ := hc i u hu
   refine ⟨vs, hv, fun j u hu => ?_⟩
   have := hcell j u hu
   unfold Addr.add
   split
   ·rename_i h0
    rw [show g = g from rfl] at this
    have e0 : off + i * sz + j = off := by omega
    rw [e0] at this
    exact this
   ·rw [Nat.add_assoc] at this
    exact this) hb hbase o.type
 unfold Oper.wp execOp
 simp only [ho, resolve, invoke, builtin, Sem.run_bind, Sem.run_pure, Result.andThen_ok, List.map_toArray, List.map_cons, List.map_nil, hs, hx]
 simp only [hrun]
 exact hK _ _ (h v' w' g1 g2 g4)
theorem add_b (B bb : Nat) (st : BS) (g n cap : Nat) (ys : List Ins) (w : World) (h : Bd w B bb st) (hB : B <= w.heap.size) (hr : RdX 7 (sP insC) anyB w (.slice (some ⟨g, 0, none⟩) n cap) ys) (hl : st.1.length + ys.length <= 1000000) :
  Calls Tryz.prog 61 #[.pointer (some ⟨bb, 0, none⟩), .slice (some ⟨g, 0, none⟩) n cap] w (Built B bb (bAdd ys st) w) := by
 obtain ⟨vl, vh, h⟩ := h
 obtain ⟨q1, c0, c1, f0, f1⟩ := h.cells
 have HO := hid h.2.2.1
 have HR := hid hr
 have HH := hid h
 clear h hr
 go_enter Tryz.func61, Tryz.ntmps61
 go_wp2_with (at_builtin; refine wp_appM inf_ins shape_ins rfl _ _ rfl B vl st.1 rfl HO.out g 0 n cap ys rfl HR.out hl hB ?_)
 intro v2 w2 ho2 hg2 hl2
 obtain ⟨d0, d1, d2, d3, d4⟩ := HH.out.setL hB ho2 hg2 hl2
 obtain ⟨p2, n2, cc2, hv2⟩ := ho2.slice
 subst hv2
 clear ho2 hg2 hl2
 go_wp2_with fail
 exact bodyPost_end (results_none rfl _ _ _) rfl ⟨rfl, d3, d4⟩
end Go.Proofs.YtijnimjmimeefaaGreat.A
