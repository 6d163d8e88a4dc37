/- Texts that the proof is made of, joined. No condition. -/
import Derived.Deep.LoopGhost
import Derived.Test.YtfpeakkbbfnhcaaGreatC1320
import Derived.Test.YtfpeakkbbfnhcaaGreatC135
import Derived.Laws.MakeOwn
import Derived.Test.YtfpeakkbbfnhcaaGreatC13H
set_option linter.unusedVariables false
set_option linter.unusedSimpArgs false
set_option maxRecDepth 100000
set_option maxHeartbeats 16000000
namespace Go.Proofs.YtfpeakkbbfnhcaaGreat.R
open Go.RowKit Go.Proofs.YtfpeakkbbfnhcaaGreat.D Go.Proofs.YtfpeakkbbfnhcaaGreat.O Go.Proofs.YtfpeakkbbfnhcaaGreat.A
theorem inf_frm : Inf 61 50 3 56 (.agg #[.bool false,.slice none 0 0,.slice none 0 0]) := ⟨by kernel_rfl,Tryz.underlying50,rfl,by decide,by decide⟩
theorem run_mkF (n : Nat) (hn : n <= 1000) (W : World) : (Instr.makeSlice 50 (.int .i64 (n : Int)) (.int .i64 (n : Int))).run Tryz.prog W = .ok (.slice (some ⟨W.heap.size,0,none⟩) n n) (W.alloc (.cells (madeCells #[.bool false,.slice none 0 0,.slice none 0 0] (n * 3)) 61)) := by
 obtain ⟨hi1,hu,hz,-,hbb⟩ := inf_frm
 obtain ⟨i0,hi,hz0,hz1,hz2⟩ := info_parts hi1
 have h := run_makeSlice (P := Tryz.prog) (w := W) 50 61 i0 _ hu hi hz0 .i64 .i64 (n : Int) (n : Int) (by omega) (by omega) (by rw [hz1]; omega) (by
  have : i0.bytes * n <= 1000 * 1000 := Nat.mul_le_mul (by omega) hn
  have h2 : ((i0.bytes * n : Nat) : Int) <= 281474976710656 := by omega
  rwa [Int.natCast_mul] at h2) (by omega)
 rw [hz1,show (Value.agg #[.bool false,.slice none 0 0,.slice none 0 0]).cells = #[.bool false,.slice none 0 0,.slice none 0 0] from by kernel_rfl] at h
 simpa using h
theorem made_at (n i : Nat) (h : i < n) : (madeCells #[.bool false,.slice none 0 0,.slice none 0 0] (n * 3))[i * 3]? = some (.bool false) /\ (madeCells #[.bool false,.slice none 0 0,.slice none 0 0] (n * 3))[i * 3 + 1]? = some (.slice none 0 0) /\ (madeCells #[.bool false,.slice none 0 0,.slice none 0 0] (n * 3))[i * 3 + 2]? = some (.slice none 0 0) := by
 unfold madeCells
 refine ⟨?_,?_,?_⟩
 ·rw [Array.getElem?_map,Array.getElem?_range,if_pos (by omega)]
  show some ((#[.bool false,.slice none 0 0,.slice none 0 0] : Array Value)[i * 3 % 3]!) = _
  rw [show i * 3 % 3 = 0 by omega]; rfl
 ·rw [Array.getElem?_map,Array.getElem?_range,if_pos (by omega)]
  show some ((#[.bool false,.slice none 0 0,.slice none 0 0] : Array Value)[(i * 3 + 1) % 3]!) = _
  rw [show (i * 3 + 1) % 3 = 1 by omega]; rfl
 ·rw [Array.getElem?_map,Array.getElem?_range,if_pos (by omega)]
  show some ((#[.bool false,.slice none 0 0,.slice none 0 0] : Array Value)[(i * 3 + 2) % 3]!) = _
  rw [show (i * 3 + 2) % 3 = 2 by omega]; rfl
theorem set12_heap {W : World} {gw : Nat} {T : TypeId} {z0 z1 z2 z3 z4 z5 z6 z7 z8 z9 z10 z11 v0 v1 v2 v3 v4 v5 v6 v7 v8 v9 v10 v11 : Value} (h : W.heap[gw]? = some (.cells #[z0,z1,z2,z3,z4,z5,z6,z7,z8,z9,z10,z11] T (0,0))) :
  ((((((((((((W.setCell ⟨gw,0,none⟩ v0).setCell ⟨gw,1,none⟩ v1).setCell ⟨gw,2,none⟩ v2).setCell ⟨gw,3,none⟩ v3).setCell ⟨gw,4,none⟩ v4).setCell ⟨gw,5,none⟩ v5).setCell ⟨gw,6,none⟩ v6).setCell ⟨gw,7,none⟩ v7).setCell ⟨gw,8,none⟩ v8).setCell ⟨gw,9,none⟩ v9).setCell ⟨gw,10,none⟩ v10).setCell ⟨gw,11,none⟩ v11).heap[gw]? = some (.cells #[v0,v1,v2,v3,v4,v5,v6,v7,v8,v9,v10,v11] T (0,0)) := by
 have h0 := heap_setCell_same _ _ 0 _ _ v0 h
 have h1 := heap_setCell_same _ _ 1 _ _ v1 h0
 have h2 := heap_setCell_same _ _ 2 _ _ v2 h1
 have h3 := heap_setCell_same _ _ 3 _ _ v3 h2
 have h4 := heap_setCell_same _ _ 4 _ _ v4 h3
 have h5 := heap_setCell_same _ _ 5 _ _ v5 h4
 have h6 := heap_setCell_same _ _ 6 _ _ v6 h5
 have h7 := heap_setCell_same _ _ 7 _ _ v7 h6
 have h8 := heap_setCell_same _ _ 8 _ _ v8 h7
 have h9 := heap_setCell_same _ _ 9 _ _ v9 h8
 have h10 := heap_setCell_same _ _ 10 _ _ v10 h9
 rw [heap_setCell_same _ _ 11 _ _ v11 h10]
 simp
theorem set12_kpt (W : World) (gw : Nat) (v0 v1 v2 v3 v4 v5 v6 v7 v8 v9 v10 v11 : Value) : Kpt [gw] W ((((((((((((W.setCell ⟨gw,0,none⟩ v0).setCell ⟨gw,1,none⟩ v1).setCell ⟨gw,2,none⟩ v2).setCell ⟨gw,3,none⟩ v3).setCell ⟨gw,4,none⟩ v4).setCell ⟨gw,5,none⟩ v5).setCell ⟨gw,6,none⟩ v6).setCell ⟨gw,7,none⟩ v7).setCell ⟨gw,8,none⟩ v8).setCell ⟨gw,9,none⟩ v9).setCell ⟨gw,10,none⟩ v10).setCell ⟨gw,11,none⟩ v11) :=
 (((((((((((Kpt.set [gw] W gw 0 v0 (by simp)).trans (Kpt.set [gw] _ gw 1 v1 (by simp)) (fun _ h => .inl h)).trans (Kpt.set [gw] _ gw 2 v2 (by simp)) (fun _ h => .inl h)).trans (Kpt.set [gw] _ gw 3 v3 (by simp)) (fun _ h => .inl h)).trans (Kpt.set [gw] _ gw 4 v4 (by simp)) (fun _ h => .inl h)).trans (Kpt.set [gw] _ gw 5 v5 (by simp)) (fun _ h => .inl h)).trans (Kpt.set [gw] _ gw 6 v6 (by simp)) (fun _ h => .inl h)).trans (Kpt.set [gw] _ gw 7 v7 (by simp)) (fun _ h => .inl h)).trans (Kpt.set [gw] _ gw 8 v8 (by simp)) (fun _ h => .inl h)).trans (Kpt.set [gw] _ gw 9 v9 (by simp)) (fun _ h => .inl h)).trans (Kpt.set [gw] _ gw 10 v10 (by simp)) (fun _ h => .inl h)).trans (Kpt.set [gw] _ gw 11 v11 (by simp)) (fun _ h => .inl h)
theorem al_ex {w0 W : World} (X : Array Value) (T : TypeId) (hB : Below w0.heap.size w0 W) : ∃ nw,nw = W.alloc (.cells X T) /\ nw.heap[W.heap.size]? = some (.cells X T (0,0)) /\ Below W.heap.size W nw /\ Below w0.heap.size w0 nw /\ w0.heap.size <= W.heap.size :=
 ⟨_,rfl,heap_alloc_new _ _,below_alR _ _,hB.trans ((below_alR _ _).mono hB.size),hB.size⟩
theorem b12 {W : World} {g : Nat} {T : TypeId} {v0 v1 v2 v3 v4 v5 v6 v7 v8 v9 v10 v11 : Value} (h : W.heap[g]? = some (.cells #[v0,v1,v2,v3,v4,v5,v6,v7,v8,v9,v10,v11] T (0,0))) : (W.cell? ⟨g,0,none⟩ = some v0 /\ W.cell? ⟨g,1,none⟩ = some v1 /\ W.cell? ⟨g,2,none⟩ = some v2 /\ W.cell? ⟨g,3,none⟩ = some v3 /\ W.cell? ⟨g,4,none⟩ = some v4 /\ W.cell? ⟨g,5,none⟩ = some v5 /\ W.cell? ⟨g,6,none⟩ = some v6 /\ W.cell? ⟨g,7,none⟩ = some v7 /\ W.cell? ⟨g,8,none⟩ = some v8 /\ W.cell? ⟨g,9,none⟩ = some v9 /\ W.cell? ⟨g,10,none⟩ = some v10 /\ W.cell? ⟨g,11,none⟩ = some v11) /\ ∀ k,W.frozen? ⟨g,k,none⟩ = false := by
 refine ⟨⟨?_,?_,?_,?_,?_,?_,?_,?_,?_,?_,?_,?_⟩,fun k => ?_⟩ <;> first | simp [World.cell?,h] | simp [World.frozen?,h]
theorem set12_ex (W : World) (gw : Nat) {T : TypeId} {z0 z1 z2 z3 z4 z5 z6 z7 z8 z9 z10 z11 : Value} (h : W.heap[gw]? = some (.cells #[z0,z1,z2,z3,z4,z5,z6,z7,z8,z9,z10,z11] T (0,0))) (v0 v1 v2 v3 v4 v5 v6 v7 v8 v9 v10 v11 : Value) : ∃ nw,nw = ((((((((((((W.setCell ⟨gw,0,none⟩ v0).setCell ⟨gw,1,none⟩ v1).setCell ⟨gw,2,none⟩ v2).setCell ⟨gw,3,none⟩ v3).setCell ⟨gw,4,none⟩ v4).setCell ⟨gw,5,none⟩ v5).setCell ⟨gw,6,none⟩ v6).setCell ⟨gw,7,none⟩ v7).setCell ⟨gw,8,none⟩ v8).setCell ⟨gw,9,none⟩ v9).setCell ⟨gw,10,none⟩ v10).setCell ⟨gw,11,none⟩ v11) /\ Kpt [gw] W nw /\ nw.heap[gw]? = some (.cells #[v0,v1,v2,v3,v4,v5,v6,v7,v8,v9,v10,v11] T (0,0)) := ⟨_,rfl,set12_kpt W gw v0 v1 v2 v3 v4 v5 v6 v7 v8 v9 v10 v11,set12_heap h⟩
theorem new_w {w0 W : World} {lb : Nat} (h : W.heap[lb]? = some (.cells #[.int .i64 0] 3 (0,0))) (hB : Below w0.heap.size w0 W) :
  Calls Tryz.prog 39 #[.slice (some ⟨lb,0,none⟩) 1 1] W fun e w' => ∃ wb,e = .returned (.pointer (some ⟨wb,0,none⟩)) /\ S.WqI (fun b => W.heap.size <= b /\ b < w'.heap.size) w' wb [0] [0] /\ w0.heap.size <= W.heap.size /\ Below W.heap.size W w' /\ Below w0.heap.size w0 w' :=
 (S.newwork_I _ [0] _ W (S.rd_one (c := S.cI) (x := 0) h rfl) (fun x hx => by rw [List.mem_singleton.1 hx]; exact okI_nat 0 (by decide)) (by decide)).mono (fun e w' ⟨wb,he,hq,hb⟩ => ⟨wb,he,S.WqI.mono (show S.WqI _ w' wb [0] [0] from hq) (fun b hb hl => ⟨hb,hl⟩),hB.size,hb,hB.trans (hb.mono hB.size)⟩)
theorem fl_begin {w0 W W' : World} {okW : Nat -> Prop} {gw fb wb tb : Nat} {m : Mth} {pp pc ph : Option Addr} {np cp nc cc nh ch : Nat} (hk : Kpt [gw] W W')
  (hbox : W'.heap[gw]? = some (.cells #[.pointer (some ⟨tb,0,none⟩),.string m.name,.slice pp np cp,.int .i64 m.ret.1,.string m.ret.2,.bool m.st,.bool m.ab,.int .i64 m.locals,.slice pc nc cc,.slice ph nh ch,.slice (some ⟨fb,0,none⟩) nc nc,.pointer (some ⟨wb,0,none⟩)] 108 (0,0))) (hf : W.heap[fb]? = some (.cells (madeCells #[.bool false,.slice none 0 0,.slice none 0 0] (nc * 3)) 61 (0,0))) (hq : S.WqI okW W wb [0] [0]) (hg : ¬ okW gw) (hfb : ¬ okW fb) (hne : gw ≠ fb) (hB : ∀ b,okW b -> w0.heap.size <= b) (hF : w0.heap.size <= fb) (hG : w0.heap.size <= gw) (hb : Below w0.heap.size w0 W) :
  FlI w0 okW W' gw fb wb tb m pp pc ph np cp nc cc nh ch (List.replicate nc noFr,[0],[0]) := by
 have hf' : W'.heap[fb]? = _ := blk_k hf hk (fun e => hne e.symm)
 refine ⟨hbox,⟨_,hf',by rw [size_madeCells,List.length_replicate],fun i f hi => ?_⟩,hq.kpt hk (fun x hx => by rw [List.mem_singleton.1 hx]; exact hg),fun f hf => ?_,List.length_replicate,⟨hg,hfb,hne⟩,hB,hF,hb.trans (hk.below (fun x hx => by rw [List.mem_singleton.1 hx]; exact hG) hb.size)⟩
 ·have hin := (List.getElem?_eq_some_iff.1 hi).1
  rw [List.length_replicate] at hin
  rw [List.getElem?_replicate,if_pos hin] at hi
  obtain rfl := Option.some.inj hi
  obtain ⟨c0,c1,c2⟩ := made_at nc i hin
  exact ⟨none,0,none,0,c0,c1,c2,RdX.nil _ _ _ _,RdX.nil _ _ _ _⟩
 ·rw [(List.mem_replicate.1 hf).2]; decide
theorem least_eq : ∀ {N : List Int} {x : Int},x ∈ N -> (∀ y ∈ N,S.ltI y x = false) -> leastI N = x
 | [],_,h,_ => by cases h
 | [y],x,h,_ => by rw [List.mem_singleton.1 h]; rfl
 | y :: z :: l,x,h,hm => by
  have hle : ∀ a ∈ y :: z :: l,x <= a := fun a ha => by have := of_decide_eq_false (hm a ha); omega
  have low : ∀ (l : List Int),l ≠ [] -> leastI l ∈ l := by
   intro l
   induction l with
   | nil => intro h; exact absurd rfl h
   | cons a l ih =>
    intro _
    cases l with
    | nil => exact List.mem_singleton.2 rfl
    | cons b l =>
     show (if a <= leastI (b :: l) then a else leastI (b :: l)) ∈ _
     split
     ·exact List.mem_cons_self ..
     ·exact List.mem_cons_of_mem _ (ih (by simp))
  show (if y <= leastI (z :: l) then y else leastI (z :: l)) = x
  have hy := hle y (by simp)
  have hz := hle _ (List.mem_cons_of_mem _ (low (z :: l) (by simp)))
  rcases List.mem_cons.1 h with rfl | h
  ·rw [if_pos hz]
  ·have he : leastI (z :: l) = x := least_eq h (fun a ha => hm a (List.mem_cons_of_mem _ ha))
   rw [he]
   split
   ·omega
   ·rfl
theorem entry_sz {c : ByteArray} {P : List Ty} {st : Bool} {loc : Int} (hc : c.size <= 1000) (hP : ∀ t ∈ P,t.2.size <= 1000) (hl : loc <= 1000) : szB (entryP c P st loc) = true := by
 unfold szB entryP
 simp only [Bool.and_eq_true,decide_eq_true_eq,List.all_eq_true,List.length_take,List.length_nil]
 refine ⟨fun t ht => ?_,fun t ht => (by cases ht),by omega,by omega⟩
 have ht2 := List.mem_of_mem_take ht
 simp only [List.mem_append,List.mem_replicate] at ht2
 rcases ht2 with (ht2 | ht2) | ht2
 ·cases st
  ·simp only [if_neg (show ¬ (false = true) by decide),List.mem_singleton] at ht2
   rw [ht2]; exact hc
  ·simp at ht2
 ·exact hP t ht2
 ·rw [ht2.2]; exact Nat.zero_le _
theorem fl_frames {w0 W : World} {okW : Nat -> Prop} {gw fb wb tb : Nat} {m : Mth} {pp pc ph : Option Addr} {np cp nc cc nh ch : Nat} {s : Flw} (h : FlI w0 okW W gw fb wb tb m pp pc ph np cp nc cc nh ch s) : RdX 3 frP (fun b => w0.heap.size <= b) W (.slice (some ⟨fb,0,none⟩) s.1.length nc) s.1 := by
 have hl := h.2.2.2.2.1
 refine ⟨_,nc,rfl,by omega,fun e => (by cases e),.inr ⟨fb,0,rfl,h.2.2.2.2.2.2.2.1,h.2.1.lt,fun i f hi => ?_⟩⟩
 obtain ⟨pl,cl,ps,cs,-,c0,c1,c2,hr⟩ := h.2.1.at hi
 obtain ⟨pl',cl',ps',cs',e,r1,r2⟩ := hr
 simp only [Value.agg.injEq,Array.mk.injEq,List.cons.injEq,Value.slice.injEq,true_and,and_true] at e
 obtain ⟨⟨rfl,rfl⟩,rfl,rfl⟩ := e
 refine ⟨[.bool f.1,.slice pl f.2.1.length cl,.slice ps f.2.2.length cs],⟨pl,cl,ps,cs,rfl,rd_imp r1 (fun b hb => hb.2.2),rd_imp r2 (fun b hb => hb.2.2)⟩,fun j u hu => ?_⟩
 rcases j with _ | _ | _ | j
 ·simp only [List.getElem?_cons_zero,Option.some.injEq] at hu; subst hu; simpa using c0
 ·simp only [List.getElem?_cons_succ,List.getElem?_cons_zero,Option.some.injEq] at hu; subst hu; simpa using c1
 ·simp only [List.getElem?_cons_succ,List.getElem?_cons_zero,Option.some.injEq] at hu; subst hu; simpa using c2
 ·simp at hu
theorem take_w {w0 w : World} {okW : Nat -> Prop} {gw fb wb tb : Nat} {m : Mth} {pp pc ph : Option Addr} {np cp nc cc nh ch : Nat} {s : Flw} (h : FlI w0 okW w gw fb wb tb m pp pc ph np cp nc cc nh ch s) (hN : s.2.2.length <= 10000) :
  Calls Tryz.prog 41 #[.pointer (some ⟨wb,0,none⟩)] w fun e w' => e = .returned (.tuple #[.int .i64 (leastI s.2.2),.bool (!s.2.2.isEmpty)]) /\ FlI w0 okW w' gw fb wb tb m pp pc ph np cp nc cc nh ch (s.1,s.2.1,S.delS s.2.2 (leastI s.2.2)) := by
 obtain ⟨F,E,N⟩ := s
 by_cases hn : N = []
 ·subst hn
  refine (S.take0_I okW wb E w h.2.2.1).mono ?_
  rintro e w' ⟨rfl,rfl⟩
  exact ⟨rfl,h⟩
 ·refine (S.take_I okW wb E N w h.2.2.1 hn hN).mono ?_
  rintro e w' ⟨x,rfl,hx,hm,hq,hk⟩
  have hl := least_eq hx hm
  dsimp only
  rw [hl]
  refine ⟨?_,h.work (fun b hb => .inl hb) hq hk⟩
  cases N with
  | nil => exact absurd rfl hn
  | cons a l => rfl
theorem mth_pos {m : Mth} {nc : Nat} (h : (mthA m).2 = 0) (hab : m.ab = false) (hn : nc = m.code.length) : 0 < nc := by
 rcases Nat.eq_zero_or_pos nc with h0 | h0
 ·exfalso
  have hc : m.code = [] := List.eq_nil_of_length_eq_zero (by omega)
  rw [mthA_no hab hc] at h
  cases h
 ·exact h0
theorem m9_of {W : World} {g : Nat} {v0 v1 v2 v3 v4 v5 v6 v7 v8 : Value} {T : TypeId} (h : W.heap[g]? = some (.cells #[v0,v1,v2,v3,v4,v5,v6,v7,v8] T (0,0))) : W.cell? ⟨g,0,none⟩ = some v0 /\ W.cell? ⟨g,1,none⟩ = some v1 /\ W.cell? ⟨g,2,none⟩ = some v2 /\ W.cell? ⟨g,3,none⟩ = some v3 /\ W.cell? ⟨g,4,none⟩ = some v4 /\ W.cell? ⟨g,5,none⟩ = some v5 /\ W.cell? ⟨g,6,none⟩ = some v6 /\ W.cell? ⟨g,7,none⟩ = some v7 /\ W.cell? ⟨g,8,none⟩ = some v8 := by
 refine ⟨?_,?_,?_,?_,?_,?_,?_,?_,?_⟩ <;> simp [World.cell?,h]
theorem cell_kw {W W' : World} {g r o : Nat} {v : Value} (h : W.cell? ⟨g,o,none⟩ = some v) (hl : g < W.heap.size) (hk : Kpt [r] W W') (hne : g ≠ r) : W'.cell? ⟨g,o,none⟩ = some v := by
 rw [<- h]
 simp only [World.cell?]
 rw [hk.2 g hl (by simpa using hne)]
theorem infer_len {T : List Sk} {ret : Ty} {C : List Ins} {H : List Hnd} {n : Nat} {s : Flw} {R : List Fr × Int × Int} (h : inferP T ret C H n s = some R) : s.2.2.length <= 10000 := by
 cases n with
 | zero => unfold inferP at h; cases h
 | succ n =>
  unfold inferP at h
  by_cases h0 : s.2.2 = []
  ·rw [h0]; decide
  ·rw [if_neg h0] at h
   by_cases h5 : 5000 < s.2.2.length
   ·rw [if_pos h5] at h; cases h
   ·omega
theorem Infer_w (ok : Nat -> Prop) (tb : Nat) (K : List Cls) (cls : ByteArray) (m : Mth) (pp pc ph : Option Addr) (np cp nc cc nh ch : Nat) (R : List Fr × Int × Int) (w : World) (h : TrN w ok (.pointer (some ⟨tb,0,none⟩)) K) (hfw : ∀ c ∈ K,FewC c)
  (hp : RdX 2 (sP tyC) anyB w (.slice pp np cp) m.params) (hc : RdX 7 (sP insC) anyB w (.slice pc nc cc) m.code) (hh : RdX 4 (sP hndC) anyB w (.slice ph nh ch) m.hs) (hz : cls.size <= 1000 /\ m.ret.2.size <= 1000 /\ (∀ t ∈ m.params,t.2.size <= 1000) /\ m.params.length <= 100 /\ m.code.length <= 1000 /\ m.hs.length <= 100 /\ (∀ x ∈ m.hs,x.2.2.2.size <= 1000) /\ (∀ x ∈ m.code,x.2.2.2.2.1.size <= 1000) /\ m.locals <= 1000) (ho : okCode m.code = true) (hR : inferW (K.map skOf) cls m = some R) :
  Calls Tryz.prog 13 #[.pointer (some ⟨tb,0,none⟩),.string cls,.agg #[.string m.name,.slice pp np cp,.int .i64 m.ret.1,.string m.ret.2,.bool m.st,.bool m.ab,.int .i64 m.locals,.slice pc nc cc,.slice ph nh ch]] w fun e w' => ∃ p c,e = .returned (.tuple #[.slice p R.1.length c,.int .i64 R.2.1,.int .i64 R.2.2]) /\ RdX 3 frP (fun b => w.heap.size <= b) w' (.slice p R.1.length c) R.1 /\ Below w.heap.size w w' := by
 have hnp : np = m.params.length := by obtain ⟨p',c',e,-⟩ := hp.len; simp only [Value.slice.injEq] at e; exact e.2.1
 have hnc : nc = m.code.length := by obtain ⟨p',c',e,-⟩ := hc.len; simp only [Value.slice.injEq] at e; exact e.2.1
 have hnh : nh = m.hs.length := by obtain ⟨p',c',e,-⟩ := hh.len; simp only [Value.slice.injEq] at e; exact e.2.1
 have HT := hid h
 have HFW := hid hfw
 have HP := hid hp
 have HC := hid hc
 have HH := hid hh
 have HSZ := hid hz
 have HOK := hid ho
 obtain ⟨T,hT⟩ : ∃ z,K.map skOf = z := ⟨_,rfl⟩
 rw [hT] at hR
 have HTT := hid hT
 have HN : Hid (np = m.params.length /\ nc = m.code.length /\ nh = m.hs.length) := hid ⟨hnp,hnc,hnh⟩
 obtain ⟨X1,hX1⟩ : ∃ z,(mthA m).1 = z := ⟨_,rfl⟩
 obtain ⟨X2,hX2⟩ : ∃ z,(mthA m).2 = z := ⟨_,rfl⟩
 obtain ⟨ab,hab⟩ : ∃ z,m.ab = z := ⟨_,rfl⟩
 unfold inferW at hR
 rw [hX2] at hR
 have HR := hid hR
 have HX : Hid ((mthA m).1 = X1 /\ (mthA m).2 = X2) := hid ⟨hX1,hX2⟩
 have HAB := hid hab
 obtain ⟨Rl,Ra,Re⟩ := R
 dsimp only
 clear h hfw hp hc hh hz ho hT hR hnp hnc hnh hX1 hX2 hab
 obtain ⟨wn,hwn⟩ : ∃ z,z = w.alloc (.cells #[.string m.name,.slice pp np cp,.int .i64 m.ret.1,.string m.ret.2,.bool m.st,.bool m.ab,.int .i64 m.locals,.slice pc nc cc,.slice ph nh ch] 49) := ⟨_,rfl⟩
 have hbn : Below w.heap.size w wn := by rw [hwn]; exact below_alR _ _
 have HM : Hid (wn.heap[w.heap.size]? = some (.cells #[.string m.name,.slice pp np cp,.int .i64 m.ret.1,.string m.ret.2,.bool m.st,.bool m.ab,.int .i64 m.locals,.slice pc nc cc,.slice ph nh ch] 49 (0,0))) := hid (by rw [hwn]; exact heap_alloc_new _ _)
 have HB := hid hbn
 replace HT := hid (HT.out.below hbn)
 replace HP := hid (HP.out.any (sP.grow _) hbn)
 replace HC := hid (HC.out.any (sP.grow _) hbn)
 replace HH := hid (HH.out.any (sP.grow _) hbn)
 clear hbn
 go_enter Tryz.func13,Tryz.ntmps13
 go_upto_region 1 with fail
 rw [<- hwn]
 clear hwn
 obtain ⟨g,hg⟩ : ∃ z,w.heap.size = z := ⟨_,rfl⟩
 rw [hg] at HM ⊢
 clear hg
 obtain ⟨zl,zc,zf⟩ := boxN HM.out
 have z0 := zc 0 _ rfl
 have z1 := zc 1 _ rfl
 have z2 := zc 2 _ rfl
 have z3 := zc 3 _ rfl
 have z4 := zc 4 _ rfl
 have z5 := zc 5 _ rfl
 have z6 := zc 6 _ rfl
 have z7 := zc 7 _ rfl
 have z8 := zc 8 _ rfl
 simp only [Nat.zero_add] at z0 z1 z2 z3 z4 z5 z6 z7 z8
 clear zc zf
 go_wp2_with fail
 clear zl z0 z1 z2 z3 z4 z5 z6 z7 z8
 refine (method_a m.name m.ret.2 m.ret.1 m.locals m.st m.ab pp pc ph np cp nc cc nh ch m.params m.code m.hs _ wn HN.out.1 (by have := HN.out.1; have := HSZ.out.2.2.2.1; omega) HC.out HH.out (by have := HN.out; have := HSZ.out; omega) (by have := HN.out; have := HSZ.out; omega)).mono ?_
 rw [show mthA (⟨m.name,m.params,(m.ret.1,m.ret.2),m.st,m.ab,m.locals,m.code,m.hs⟩ : Mth) = mthA m from rfl,HX.out.1,HX.out.2]
 rintro e w1 ⟨rfl,hbn⟩
 replace HM := hid (blk_b HM.out hbn)
 replace HB := hid (HB.out.trans (hbn.mono HB.out.size))
 replace HT := hid (HT.out.below hbn)
 replace HP := hid (HP.out.any (sP.grow _) hbn)
 replace HC := hid (HC.out.any (sP.grow _) hbn)
 replace HH := hid (HH.out.any (sP.grow _) hbn)
 clear hbn
 by_cases hbad : ab = true ∨ ¬ X2 = 0
 ·have h9 := HR.out
  rw [HAB.out,if_pos hbad] at h9
  obtain ⟨rfl,rfl,rfl⟩ : Rl = [] /\ Ra = -1 /\ Re = 28 := by have h9 := Option.some.inj h9; simp only [Prod.mk.injEq] at h9; exact ⟨h9.1.symm,h9.2.1.symm,h9.2.2.symm⟩
  rw [show m.ab = ab from HAB.out] at HM
  cases ab with
  | true =>
   obtain ⟨zl,zc,zf⟩ := boxN HM.out
   have z5 := zc 5 _ rfl
   simp only [Nat.zero_add] at z5
   clear zc zf
   go_wp2_with fail
   refine bodyPost_ret (v := .tuple #[.slice none 0 0,.int .i64 (-1),.int .i64 28]) (by simp [*,results,Tryz.results13,go_sem]) rfl ?_
   exact ⟨none,0,rfl,RdX.nil _ _ _ _,HB.out⟩
  | false =>
   have hx : (X2 != 0) = true := by rcases hbad with h | h; (· cases h); simpa using h
   obtain ⟨zl,zc,zf⟩ := boxN HM.out
   have z5 := zc 5 _ rfl
   simp only [Nat.zero_add] at z5
   clear zc zf
   go_wp2_with fail
   refine bodyPost_ret (v := .tuple #[.slice none 0 0,.int .i64 (-1),.int .i64 28]) (by simp [*,results,Tryz.results13,go_sem]) rfl ?_
   exact ⟨none,0,rfl,RdX.nil _ _ _ _,HB.out⟩
 ·have e1 : ab = false := Bool.eq_false_iff.2 (fun h => hbad (.inl h))
  have e2 : X2 = 0 := Decidable.byContradiction (fun h => hbad (.inr h))
  have HR1 : Hid ((if ¬ badH T m.hs = 0 then some ([],-1,badH T m.hs) else inferP T m.ret m.code m.hs 60 (beginP m.code (entryP cls m.params m.st m.locals))) = some (Rl,Ra,Re)) := hid (by have h9 := HR.out; rw [HAB.out,if_neg hbad] at h9; exact h9)
  subst e1 e2
  clear HR hbad
  obtain ⟨zl,zc,zf⟩ := boxN HM.out
  have z5 := zc 5 _ rfl
  simp only [Nat.zero_add] at z5
  clear zc zf
  have z5' : w1.cell? ⟨g,5,none⟩ = some (.bool false) := by rw [z5,HAB.out]
  clear z5
  go_upto_region 6 with fail
  clear zl z5'
  obtain ⟨zl,zc,zf⟩ := boxN HM.out
  have z0 := zc 0 _ rfl
  have z1 := zc 1 _ rfl
  have z2 := zc 2 _ rfl
  have z3 := zc 3 _ rfl
  have z4 := zc 4 _ rfl
  have z5 := zc 5 _ rfl
  have z6 := zc 6 _ rfl
  have z7 := zc 7 _ rfl
  have z8 := zc 8 _ rfl
  simp only [Nat.zero_add] at z0 z1 z2 z3 z4 z5 z6 z7 z8
  clear zc zf
  go_wp2_with fail
  clear zl z0 z1 z2 z3 z4 z5 z6 z7 z8
  obtain ⟨mb,vs,htw⟩ := trn_ptr HT.out
  refine (wrongCatch_w ok tb mb vs K m pp pc ph np cp nc cc nh ch w1 htw HH.out ⟨HSZ.out.2.2.2.2.2.1,HSZ.out.2.2.2.2.2.2.1⟩).mono ?_
  rw [HTT.out]
  obtain ⟨Y,hY⟩ : ∃ z,badH T m.hs = z := ⟨_,rfl⟩
  rw [hY]
  have HY := hid hY
  clear hY htw
  rintro e w2 ⟨rfl,hbn⟩
  replace HM := hid (blk_b HM.out hbn)
  replace HB := hid (HB.out.trans (hbn.mono HB.out.size))
  replace HT := hid (HT.out.below hbn)
  replace HP := hid (HP.out.any (sP.grow _) hbn)
  replace HC := hid (HC.out.any (sP.grow _) hbn)
  replace HH := hid (HH.out.any (sP.grow _) hbn)
  clear hbn
  by_cases hbd : Y = 0
  ·subst hbd
   have HR2 : Hid (inferP T m.ret m.code m.hs 60 (beginP m.code (entryP cls m.params m.st m.locals)) = some (Rl,Ra,Re)) := hid (by have h9 := HR1.out; rw [HY.out,if_neg (by simp)] at h9; exact h9)
   have HNP : Hid (0 < nc) := hid (mth_pos HX.out.2 HAB.out HN.out.2.1)
   have HGL : Hid (g < w2.heap.size) := hid (Array.getElem?_eq_some_iff.1 HM.out).1
   have HNC : Hid (0 < nc /\ nc <= 1000) := hid ⟨HNP.out,by have h1 := HN.out.2.1; have h2 := HSZ.out.2.2.2.2.1; omega⟩
   clear HR1 HY HX HNP
   go_upto_region 9 with fail
   go_cut [12] from 37 to 46 (fun s12 wx => ∃ (gw fb wb : Nat) (okW : Nat -> Prop),s12 = .pointer (some ⟨gw,0,none⟩) /\ Hid (FlI w2 okW wx gw fb wb tb m pp pc ph np cp nc cc nh ch (List.replicate nc noFr,[0],[0])))
   case first =>
    obtain ⟨wd,hwd⟩ : ∃ z,z = w2.drew := ⟨_,rfl⟩
    have HBX : Hid (Below w2.heap.size w2 wd) := hid (by rw [hwd]; exact (Below.refl _ _).drew)
    replace HM := hid (blk_b HM.out HBX.out)
    have HGG := HGL
    have hmk := run_mkF nc HNC.out.2
    refine wp_region_held_drew (S := fun W => (W.cell? ⟨g,0,none⟩ = some (.string m.name) /\ W.cell? ⟨g,1,none⟩ = some (.slice pp np cp) /\ W.cell? ⟨g,2,none⟩ = some (.int .i64 m.ret.1) /\ W.cell? ⟨g,3,none⟩ = some (.string m.ret.2) /\ W.cell? ⟨g,4,none⟩ = some (.bool m.st) /\ W.cell? ⟨g,5,none⟩ = some (.bool m.ab) /\ W.cell? ⟨g,6,none⟩ = some (.int .i64 m.locals) /\ W.cell? ⟨g,7,none⟩ = some (.slice pc nc cc) /\ W.cell? ⟨g,8,none⟩ = some (.slice ph nh ch))) (by kernel_rfl) (by rw [<- hwd]; exact m9_of HM.out) (fun hh => ?_)
    rw [<- hwd] at hh ⊢
    clear hwd
    refine tkA 0 _ hh ?_
    try go_frame
    refine tkB 1 _ hh ?_
    try go_frame
    refine tkA 2 _ hh ?_
    try go_frame
    refine tkB 3 _ hh ?_
    try go_frame
    refine tkA 4 _ hh ?_
    try go_frame
    refine rdH [5,6,9] ?_
    refine AllReadyH.cons (o := _) (by simp only [List.getElem?_toArray,List.getElem?_cons_succ,List.getElem?_cons_zero]; rfl) (fun KX hKX => ?_) ?_
    ·clear hh
     go_simp
     obtain ⟨wx0,hw_,h1,hbn,h2,h3⟩ := al_ex (madeCells #[.bool false,.slice none 0 0,.slice none 0 0] (nc * 3)) 61 HBX.out
     have HFB := hid h1
     have HFBL := hid h3
     replace HM := hid (blk_b HM.out hbn)
     replace HBX := hid h2
     rw [<- hw_]
     clear h1 hbn h2 h3 hw_
     obtain ⟨fb,hv_⟩ : ∃ z,wd.heap.size = z := ⟨_,rfl⟩
     rw [hv_] at HFB HFBL ⊢
     clear hv_
     refine hKX.out _ _ (by first | exact m9_of HM.out | exact m9_of HMK.out) (fun hh => ?_)
     clear hKX KX
     try go_frame
     refine rdH [6,9] ?_
     refine AllReadyH.cons (o := _) (by simp only [List.getElem?_toArray,List.getElem?_cons_succ,List.getElem?_cons_zero]; rfl) (fun KX hKX => ?_) ?_
     ·clear hh
      go_simp
      obtain ⟨wx1,hw_,h1,hbn,h2,h3⟩ := al_ex (#[.int .i64 0]) 3 HBX.out
      have HLT := hid h1
      replace HM := hid (blk_b HM.out hbn)
      replace HFB := hid (blk_b HFB.out hbn)
      replace HBX := hid h2
      rw [<- hw_]
      clear h1 hbn h2 h3 hw_
      refine hKX.out _ _ (by first | exact m9_of HM.out | exact m9_of HMK.out) (fun hh => ?_)
      clear hKX KX
      try go_frame
      refine rdH [7,9] ?_
      refine AllReadyH.cons (o := _) (by simp only [List.getElem?_toArray,List.getElem?_cons_succ,List.getElem?_cons_zero]; rfl) (fun KX hKX => ?_) ?_
      ·clear hh
       go_simp
       refine (new_w HLT.out HBX.out).mono ?_
       rintro e wx2 ⟨wb,rfl,hq,hlo,hbn,h2⟩
       have HWQ := hid hq
       have HLO := hid hlo
       have HNF : Hid (¬ (wx1.heap.size <= fb /\ fb < wx2.heap.size)) := hid (by have := (Array.getElem?_eq_some_iff.1 HFB.out).1; omega)
       replace HM := hid (blk_b HM.out hbn)
       replace HFB := hid (blk_b HFB.out hbn)
       replace HLT := hid (blk_b HLT.out hbn)
       replace HBX := hid h2
       clear hbn hq hlo h2
       obtain ⟨lo,hlo⟩ : ∃ z,wx1.heap.size = z := ⟨_,rfl⟩
       rw [hlo] at HWQ HLO HNF
       obtain ⟨hi,hhi⟩ : ∃ z,z = wx2.heap.size := ⟨_,rfl⟩
       rw [<- hhi] at HWQ HNF
       have HHI : Hid (hi <= wx2.heap.size) := hid (Nat.le_of_eq hhi)
       clear hlo hhi
       refine hKX.out _ _ (by first | exact m9_of HM.out | exact m9_of HMK.out) (fun hh => ?_)
       clear hKX KX
       try go_frame
       refine tkA 8 _ hh ?_
       try go_frame
       refine rdH [9] ?_
       refine AllReadyH.cons (o := _) (by simp only [List.getElem?_toArray,List.getElem?_cons_succ,List.getElem?_cons_zero]; rfl) (fun KX hKX => ?_) AllReadyH.nil
       clear hh
       go_simp
       have HNE : Hid (wx2.heap.size ≠ fb) := hid (Nat.ne_of_gt (Array.getElem?_eq_some_iff.1 HFB.out).1)
       have HNG : Hid (¬ (lo <= wx2.heap.size /\ wx2.heap.size < hi)) := hid (by have := HHI.out; omega)
       obtain ⟨wx3,hw_,h1,hbn,h2,h3⟩ := al_ex (#[.pointer none,.string ⟨#[]⟩,.slice none 0 0,.int .i64 0,.string ⟨#[]⟩,.bool false,.bool false,.int .i64 0,.slice none 0 0,.slice none 0 0,.slice none 0 0,.pointer none]) 108 HBX.out
       have HGW := hid h1
       have HGWL := hid h3
       replace HM := hid (blk_b HM.out hbn)
       replace HFB := hid (blk_b HFB.out hbn)
       replace HWQ := hid (HWQ.out.bel hbn)
       replace HBX := hid h2
       rw [<- hw_]
       replace HHI := hid (Nat.le_trans HHI.out hbn.size)
       clear h1 hbn h2 h3 hw_
       obtain ⟨gw,hv_⟩ : ∃ z,wx2.heap.size = z := ⟨_,rfl⟩
       rw [hv_] at HGW HGWL HNE HNG ⊢
       clear hv_
       refine hKX.out _ _ (by first | exact m9_of HM.out | exact m9_of HMK.out) (fun hh => ?_)
       clear hKX KX
       try go_frame
       refine rdH [10] ?_
       refine AllReadyH.cons (o := _) (by simp only [List.getElem?_toArray,List.getElem?_cons_succ,List.getElem?_cons_zero]; rfl) (fun KX hKX => ?_) AllReadyH.nil
       clear hh
       obtain ⟨⟨r0,r1,r2,r3,r4,r5,r6,r7,r8,r9,r10,r11⟩,rf⟩ := b12 HGW.out
       go_simp
       clear r0 r1 r2 r3 r4 r5 r6 r7 r8 r9 r10 r11 rf
       obtain ⟨w9,hw9,hk9,hb9⟩ := set12_ex wx3 gw HGW.out (.pointer (some ⟨tb,0,none⟩)) (.string m.name) (.slice pp np cp) (.int .i64 m.ret.1) (.string m.ret.2) (.bool m.st) (.bool m.ab) (.int .i64 m.locals) (.slice pc nc cc) (.slice ph nh ch) (.slice (some ⟨fb,0,none⟩) nc nc) (.pointer (some ⟨wb,0,none⟩))
       rw [<- hw9]
       have HK9 := hid hk9
       have HB9 := hid hb9
       have HMK := hid (blk_k HM.out hk9 (Nat.ne_of_lt (Nat.lt_of_lt_of_le HGG.out HGWL.out)))
       clear hw9 hk9 hb9
       refine hKX.out _ _ (by first | exact m9_of HM.out | exact m9_of HMK.out) (fun hh => ?_)
       clear hKX KX
       try go_frame
       refine wpAnyH_done (by kernel_rfl) ?_ _
       clear hh
       go_wp2_with fail
       go_meet
       case rel => exact ⟨gw,fb,wb,(fun b => lo <= b /\ b < hi),rfl,hid (fl_begin HK9.out HB9.out HFB.out HWQ.out HNG.out HNF.out HNE.out (fun b hb => Nat.le_trans HLO.out hb.1) HFBL.out HGWL.out HBX.out)⟩
      refine AllReadyH.cons (o := _) (by simp only [List.getElem?_toArray,List.getElem?_cons_succ,List.getElem?_cons_zero]; rfl) (fun KX hKX => ?_) AllReadyH.nil
      clear hh
      go_simp
      have HNE : Hid (wx1.heap.size ≠ fb) := hid (Nat.ne_of_gt (Array.getElem?_eq_some_iff.1 HFB.out).1)
      obtain ⟨wx2,hw_,h1,hbn,h2,h3⟩ := al_ex (#[.pointer none,.string ⟨#[]⟩,.slice none 0 0,.int .i64 0,.string ⟨#[]⟩,.bool false,.bool false,.int .i64 0,.slice none 0 0,.slice none 0 0,.slice none 0 0,.pointer none]) 108 HBX.out
      have HGW := hid h1
      have HGWL := hid h3
      replace HM := hid (blk_b HM.out hbn)
      replace HFB := hid (blk_b HFB.out hbn)
      replace HLT := hid (blk_b HLT.out hbn)
      replace HBX := hid h2
      rw [<- hw_]
      clear h1 hbn h2 h3 hw_
      obtain ⟨gw,hv_⟩ : ∃ z,wx1.heap.size = z := ⟨_,rfl⟩
      rw [hv_] at HGW HGWL HNE ⊢
      clear hv_
      refine hKX.out _ _ (by first | exact m9_of HM.out | exact m9_of HMK.out) (fun hh => ?_)
      clear hKX KX
      try go_frame
      refine rdH [7] ?_
      refine AllReadyH.cons (o := _) (by simp only [List.getElem?_toArray,List.getElem?_cons_succ,List.getElem?_cons_zero]; rfl) (fun KX hKX => ?_) AllReadyH.nil
      clear hh
      go_simp
      refine (new_w HLT.out HBX.out).mono ?_
      rintro e wx3 ⟨wb,rfl,hq,hlo,hbn,h2⟩
      have HWQ := hid hq
      have HLO := hid hlo
      have HNF : Hid (¬ (wx2.heap.size <= fb /\ fb < wx3.heap.size)) := hid (by have := (Array.getElem?_eq_some_iff.1 HFB.out).1; omega)
      have HNG : Hid (¬ (wx2.heap.size <= gw /\ gw < wx3.heap.size)) := hid (by have := (Array.getElem?_eq_some_iff.1 HGW.out).1; omega)
      replace HM := hid (blk_b HM.out hbn)
      replace HFB := hid (blk_b HFB.out hbn)
      replace HLT := hid (blk_b HLT.out hbn)
      replace HGW := hid (blk_b HGW.out hbn)
      replace HBX := hid h2
      clear hbn hq hlo h2
      obtain ⟨lo,hlo⟩ : ∃ z,wx2.heap.size = z := ⟨_,rfl⟩
      rw [hlo] at HWQ HLO HNF HNG
      obtain ⟨hi,hhi⟩ : ∃ z,z = wx3.heap.size := ⟨_,rfl⟩
      rw [<- hhi] at HWQ HNF HNG
      have HHI : Hid (hi <= wx3.heap.size) := hid (Nat.le_of_eq hhi)
      clear hlo hhi
      refine hKX.out _ _ (by first | exact m9_of HM.out | exact m9_of HMK.out) (fun hh => ?_)
      clear hKX KX
      try go_frame
      refine tkA 8 _ hh ?_
      try go_frame
      refine rdH [10] ?_
      refine AllReadyH.cons (o := _) (by simp only [List.getElem?_toArray,List.getElem?_cons_succ,List.getElem?_cons_zero]; rfl) (fun KX hKX => ?_) AllReadyH.nil
      clear hh
      obtain ⟨⟨r0,r1,r2,r3,r4,r5,r6,r7,r8,r9,r10,r11⟩,rf⟩ := b12 HGW.out
      go_simp
      clear r0 r1 r2 r3 r4 r5 r6 r7 r8 r9 r10 r11 rf
      obtain ⟨w9,hw9,hk9,hb9⟩ := set12_ex wx3 gw HGW.out (.pointer (some ⟨tb,0,none⟩)) (.string m.name) (.slice pp np cp) (.int .i64 m.ret.1) (.string m.ret.2) (.bool m.st) (.bool m.ab) (.int .i64 m.locals) (.slice pc nc cc) (.slice ph nh ch) (.slice (some ⟨fb,0,none⟩) nc nc) (.pointer (some ⟨wb,0,none⟩))
      rw [<- hw9]
      have HK9 := hid hk9
      have HB9 := hid hb9
      have HMK := hid (blk_k HM.out hk9 (Nat.ne_of_lt (Nat.lt_of_lt_of_le HGG.out HGWL.out)))
      clear hw9 hk9 hb9
      refine hKX.out _ _ (by first | exact m9_of HM.out | exact m9_of HMK.out) (fun hh => ?_)
      clear hKX KX
      try go_frame
      refine wpAnyH_done (by kernel_rfl) ?_ _
      clear hh
      go_wp2_with fail
      go_meet
      case rel => exact ⟨gw,fb,wb,(fun b => lo <= b /\ b < hi),rfl,hid (fl_begin HK9.out HB9.out HFB.out HWQ.out HNG.out HNF.out HNE.out (fun b hb => Nat.le_trans HLO.out hb.1) HFBL.out HGWL.out HBX.out)⟩
     refine AllReadyH.cons (o := _) (by simp only [List.getElem?_toArray,List.getElem?_cons_succ,List.getElem?_cons_zero]; rfl) (fun KX hKX => ?_) AllReadyH.nil
     clear hh
     go_simp
     have HNE : Hid (wx0.heap.size ≠ fb) := hid (Nat.ne_of_gt (Array.getElem?_eq_some_iff.1 HFB.out).1)
     obtain ⟨wx1,hw_,h1,hbn,h2,h3⟩ := al_ex (#[.pointer none,.string ⟨#[]⟩,.slice none 0 0,.int .i64 0,.string ⟨#[]⟩,.bool false,.bool false,.int .i64 0,.slice none 0 0,.slice none 0 0,.slice none 0 0,.pointer none]) 108 HBX.out
     have HGW := hid h1
     have HGWL := hid h3
     replace HM := hid (blk_b HM.out hbn)
     replace HFB := hid (blk_b HFB.out hbn)
     replace HBX := hid h2
     rw [<- hw_]
     clear h1 hbn h2 h3 hw_
     obtain ⟨gw,hv_⟩ : ∃ z,wx0.heap.size = z := ⟨_,rfl⟩
     rw [hv_] at HGW HGWL HNE ⊢
     clear hv_
     refine hKX.out _ _ (by first | exact m9_of HM.out | exact m9_of HMK.out) (fun hh => ?_)
     clear hKX KX
     try go_frame
     refine rdH [6] ?_
     refine AllReadyH.cons (o := _) (by simp only [List.getElem?_toArray,List.getElem?_cons_succ,List.getElem?_cons_zero]; rfl) (fun KX hKX => ?_) AllReadyH.nil
     clear hh
     go_simp
     obtain ⟨wx2,hw_,h1,hbn,h2,h3⟩ := al_ex (#[.int .i64 0]) 3 HBX.out
     have HLT := hid h1
     replace HM := hid (blk_b HM.out hbn)
     replace HFB := hid (blk_b HFB.out hbn)
     replace HGW := hid (blk_b HGW.out hbn)
     replace HBX := hid h2
     rw [<- hw_]
     clear h1 hbn h2 h3 hw_
     refine hKX.out _ _ (by first | exact m9_of HM.out | exact m9_of HMK.out) (fun hh => ?_)
     clear hKX KX
     try go_frame
     refine rdH [7] ?_
     refine AllReadyH.cons (o := _) (by simp only [List.getElem?_toArray,List.getElem?_cons_succ,List.getElem?_cons_zero]; rfl) (fun KX hKX => ?_) AllReadyH.nil
     clear hh
     go_simp
     refine (new_w HLT.out HBX.out).mono ?_
     rintro e wx3 ⟨wb,rfl,hq,hlo,hbn,h2⟩
     have HWQ := hid hq
     have HLO := hid hlo
     have HNF : Hid (¬ (wx2.heap.size <= fb /\ fb < wx3.heap.size)) := hid (by have := (Array.getElem?_eq_some_iff.1 HFB.out).1; omega)
     have HNG : Hid (¬ (wx2.heap.size <= gw /\ gw < wx3.heap.size)) := hid (by have := (Array.getElem?_eq_some_iff.1 HGW.out).1; omega)
     replace HM := hid (blk_b HM.out hbn)
     replace HFB := hid (blk_b HFB.out hbn)
     replace HGW := hid (blk_b HGW.out hbn)
     replace HLT := hid (blk_b HLT.out hbn)
     replace HBX := hid h2
     clear hbn hq hlo h2
     obtain ⟨lo,hlo⟩ : ∃ z,wx2.heap.size = z := ⟨_,rfl⟩
     rw [hlo] at HWQ HLO HNF HNG
     obtain ⟨hi,hhi⟩ : ∃ z,z = wx3.heap.size := ⟨_,rfl⟩
     rw [<- hhi] at HWQ HNF HNG
     have HHI : Hid (hi <= wx3.heap.size) := hid (Nat.le_of_eq hhi)
     clear hlo hhi
     refine hKX.out _ _ (by first | exact m9_of HM.out | exact m9_of HMK.out) (fun hh => ?_)
     clear hKX KX
     try go_frame
     refine tkA 8 _ hh ?_
     try go_frame
     refine rdH [10] ?_
     refine AllReadyH.cons (o := _) (by simp only [List.getElem?_toArray,List.getElem?_cons_succ,List.getElem?_cons_zero]; rfl) (fun KX hKX => ?_) AllReadyH.nil
     clear hh
     obtain ⟨⟨r0,r1,r2,r3,r4,r5,r6,r7,r8,r9,r10,r11⟩,rf⟩ := b12 HGW.out
     go_simp
     clear r0 r1 r2 r3 r4 r5 r6 r7 r8 r9 r10 r11 rf
     obtain ⟨w9,hw9,hk9,hb9⟩ := set12_ex wx3 gw HGW.out (.pointer (some ⟨tb,0,none⟩)) (.string m.name) (.slice pp np cp) (.int .i64 m.ret.1) (.string m.ret.2) (.bool m.st) (.bool m.ab) (.int .i64 m.locals) (.slice pc nc cc) (.slice ph nh ch) (.slice (some ⟨fb,0,none⟩) nc nc) (.pointer (some ⟨wb,0,none⟩))
     rw [<- hw9]
     have HK9 := hid hk9
     have HB9 := hid hb9
     have HMK := hid (blk_k HM.out hk9 (Nat.ne_of_lt (Nat.lt_of_lt_of_le HGG.out HGWL.out)))
     clear hw9 hk9 hb9
     refine hKX.out _ _ (by first | exact m9_of HM.out | exact m9_of HMK.out) (fun hh => ?_)
     clear hKX KX
     try go_frame
     refine wpAnyH_done (by kernel_rfl) ?_ _
     clear hh
     go_wp2_with fail
     go_meet
     case rel => exact ⟨gw,fb,wb,(fun b => lo <= b /\ b < hi),rfl,hid (fl_begin HK9.out HB9.out HFB.out HWQ.out HNG.out HNF.out HNE.out (fun b hb => Nat.le_trans HLO.out hb.1) HFBL.out HGWL.out HBX.out)⟩
    refine AllReadyH.cons (o := _) (by simp only [List.getElem?_toArray,List.getElem?_cons_succ,List.getElem?_cons_zero]; rfl) (fun KX hKX => ?_) ?_
    ·clear hh
     go_simp
     obtain ⟨wx0,hw_,h1,hbn,h2,h3⟩ := al_ex (#[.int .i64 0]) 3 HBX.out
     have HLT := hid h1
     replace HM := hid (blk_b HM.out hbn)
     replace HBX := hid h2
     rw [<- hw_]
     clear h1 hbn h2 h3 hw_
     refine hKX.out _ _ (by first | exact m9_of HM.out | exact m9_of HMK.out) (fun hh => ?_)
     clear hKX KX
     try go_frame
     refine rdH [5,7,9] ?_
     refine AllReadyH.cons (o := _) (by simp only [List.getElem?_toArray,List.getElem?_cons_succ,List.getElem?_cons_zero]; rfl) (fun KX hKX => ?_) ?_
     ·clear hh
      go_simp
      obtain ⟨wx1,hw_,h1,hbn,h2,h3⟩ := al_ex (madeCells #[.bool false,.slice none 0 0,.slice none 0 0] (nc * 3)) 61 HBX.out
      have HFB := hid h1
      have HFBL := hid h3
      replace HM := hid (blk_b HM.out hbn)
      replace HLT := hid (blk_b HLT.out hbn)
      replace HBX := hid h2
      rw [<- hw_]
      clear h1 hbn h2 h3 hw_
      obtain ⟨fb,hv_⟩ : ∃ z,wx0.heap.size = z := ⟨_,rfl⟩
      rw [hv_] at HFB HFBL ⊢
      clear hv_
      refine hKX.out _ _ (by first | exact m9_of HM.out | exact m9_of HMK.out) (fun hh => ?_)
      clear hKX KX
      try go_frame
      refine rdH [7,9] ?_
      refine AllReadyH.cons (o := _) (by simp only [List.getElem?_toArray,List.getElem?_cons_succ,List.getElem?_cons_zero]; rfl) (fun KX hKX => ?_) ?_
      ·clear hh
       go_simp
       refine (new_w HLT.out HBX.out).mono ?_
       rintro e wx2 ⟨wb,rfl,hq,hlo,hbn,h2⟩
       have HWQ := hid hq
       have HLO := hid hlo
       have HNF : Hid (¬ (wx1.heap.size <= fb /\ fb < wx2.heap.size)) := hid (by have := (Array.getElem?_eq_some_iff.1 HFB.out).1; omega)
       replace HM := hid (blk_b HM.out hbn)
       replace HLT := hid (blk_b HLT.out hbn)
       replace HFB := hid (blk_b HFB.out hbn)
       replace HBX := hid h2
       clear hbn hq hlo h2
       obtain ⟨lo,hlo⟩ : ∃ z,wx1.heap.size = z := ⟨_,rfl⟩
       rw [hlo] at HWQ HLO HNF
       obtain ⟨hi,hhi⟩ : ∃ z,z = wx2.heap.size := ⟨_,rfl⟩
       rw [<- hhi] at HWQ HNF
       have HHI : Hid (hi <= wx2.heap.size) := hid (Nat.le_of_eq hhi)
       clear hlo hhi
       refine hKX.out _ _ (by first | exact m9_of HM.out | exact m9_of HMK.out) (fun hh => ?_)
       clear hKX KX
       try go_frame
       refine tkA 8 _ hh ?_
       try go_frame
       refine rdH [9] ?_
       refine AllReadyH.cons (o := _) (by simp only [List.getElem?_toArray,List.getElem?_cons_succ,List.getElem?_cons_zero]; rfl) (fun KX hKX => ?_) AllReadyH.nil
       clear hh
       go_simp
       have HNE : Hid (wx2.heap.size ≠ fb) := hid (Nat.ne_of_gt (Array.getElem?_eq_some_iff.1 HFB.out).1)
       have HNG : Hid (¬ (lo <= wx2.heap.size /\ wx2.heap.size < hi)) := hid (by have := HHI.out; omega)
       obtain ⟨wx3,hw_,h1,hbn,h2,h3⟩ := al_ex (#[.pointer none,.string ⟨#[]⟩,.slice none 0 0,.int .i64 0,.string ⟨#[]⟩,.bool false,.bool false,.int .i64 0,.slice none 0 0,.slice none 0 0,.slice none 0 0,.pointer none]) 108 HBX.out
       have HGW := hid h1
       have HGWL := hid h3
       replace HM := hid (blk_b HM.out hbn)
       replace HFB := hid (blk_b HFB.out hbn)
       replace HWQ := hid (HWQ.out.bel hbn)
       replace HBX := hid h2
       rw [<- hw_]
       replace HHI := hid (Nat.le_trans HHI.out hbn.size)
       clear h1 hbn h2 h3 hw_
       obtain ⟨gw,hv_⟩ : ∃ z,wx2.heap.size = z := ⟨_,rfl⟩
       rw [hv_] at HGW HGWL HNE HNG ⊢
       clear hv_
       refine hKX.out _ _ (by first | exact m9_of HM.out | exact m9_of HMK.out) (fun hh => ?_)
       clear hKX KX
       try go_frame
       refine rdH [10] ?_
       refine AllReadyH.cons (o := _) (by simp only [List.getElem?_toArray,List.getElem?_cons_succ,List.getElem?_cons_zero]; rfl) (fun KX hKX => ?_) AllReadyH.nil
       clear hh
       obtain ⟨⟨r0,r1,r2,r3,r4,r5,r6,r7,r8,r9,r10,r11⟩,rf⟩ := b12 HGW.out
       go_simp
       clear r0 r1 r2 r3 r4 r5 r6 r7 r8 r9 r10 r11 rf
       obtain ⟨w9,hw9,hk9,hb9⟩ := set12_ex wx3 gw HGW.out (.pointer (some ⟨tb,0,none⟩)) (.string m.name) (.slice pp np cp) (.int .i64 m.ret.1) (.string m.ret.2) (.bool m.st) (.bool m.ab) (.int .i64 m.locals) (.slice pc nc cc) (.slice ph nh ch) (.slice (some ⟨fb,0,none⟩) nc nc) (.pointer (some ⟨wb,0,none⟩))
       rw [<- hw9]
       have HK9 := hid hk9
       have HB9 := hid hb9
       have HMK := hid (blk_k HM.out hk9 (Nat.ne_of_lt (Nat.lt_of_lt_of_le HGG.out HGWL.out)))
       clear hw9 hk9 hb9
       refine hKX.out _ _ (by first | exact m9_of HM.out | exact m9_of HMK.out) (fun hh => ?_)
       clear hKX KX
       try go_frame
       refine wpAnyH_done (by kernel_rfl) ?_ _
       clear hh
       go_wp2_with fail
       go_meet
       case rel => exact ⟨gw,fb,wb,(fun b => lo <= b /\ b < hi),rfl,hid (fl_begin HK9.out HB9.out HFB.out HWQ.out HNG.out HNF.out HNE.out (fun b hb => Nat.le_trans HLO.out hb.1) HFBL.out HGWL.out HBX.out)⟩
      refine AllReadyH.cons (o := _) (by simp only [List.getElem?_toArray,List.getElem?_cons_succ,List.getElem?_cons_zero]; rfl) (fun KX hKX => ?_) AllReadyH.nil
      clear hh
      go_simp
      have HNE : Hid (wx1.heap.size ≠ fb) := hid (Nat.ne_of_gt (Array.getElem?_eq_some_iff.1 HFB.out).1)
      obtain ⟨wx2,hw_,h1,hbn,h2,h3⟩ := al_ex (#[.pointer none,.string ⟨#[]⟩,.slice none 0 0,.int .i64 0,.string ⟨#[]⟩,.bool false,.bool false,.int .i64 0,.slice none 0 0,.slice none 0 0,.slice none 0 0,.pointer none]) 108 HBX.out
      have HGW := hid h1
      have HGWL := hid h3
      replace HM := hid (blk_b HM.out hbn)
      replace HLT := hid (blk_b HLT.out hbn)
      replace HFB := hid (blk_b HFB.out hbn)
      replace HBX := hid h2
      rw [<- hw_]
      clear h1 hbn h2 h3 hw_
      obtain ⟨gw,hv_⟩ : ∃ z,wx1.heap.size = z := ⟨_,rfl⟩
      rw [hv_] at HGW HGWL HNE ⊢
      clear hv_
      refine hKX.out _ _ (by first | exact m9_of HM.out | exact m9_of HMK.out) (fun hh => ?_)
      clear hKX KX
      try go_frame
      refine rdH [7] ?_
      refine AllReadyH.cons (o := _) (by simp only [List.getElem?_toArray,List.getElem?_cons_succ,List.getElem?_cons_zero]; rfl) (fun KX hKX => ?_) AllReadyH.nil
      clear hh
      go_simp
      refine (new_w HLT.out HBX.out).mono ?_
      rintro e wx3 ⟨wb,rfl,hq,hlo,hbn,h2⟩
      have HWQ := hid hq
      have HLO := hid hlo
      have HNF : Hid (¬ (wx2.heap.size <= fb /\ fb < wx3.heap.size)) := hid (by have := (Array.getElem?_eq_some_iff.1 HFB.out).1; omega)
      have HNG : Hid (¬ (wx2.heap.size <= gw /\ gw < wx3.heap.size)) := hid (by have := (Array.getElem?_eq_some_iff.1 HGW.out).1; omega)
      replace HM := hid (blk_b HM.out hbn)
      replace HLT := hid (blk_b HLT.out hbn)
      replace HFB := hid (blk_b HFB.out hbn)
      replace HGW := hid (blk_b HGW.out hbn)
      replace HBX := hid h2
      clear hbn hq hlo h2
      obtain ⟨lo,hlo⟩ : ∃ z,wx2.heap.size = z := ⟨_,rfl⟩
      rw [hlo] at HWQ HLO HNF HNG
      obtain ⟨hi,hhi⟩ : ∃ z,z = wx3.heap.size := ⟨_,rfl⟩
      rw [<- hhi] at HWQ HNF HNG
      have HHI : Hid (hi <= wx3.heap.size) := hid (Nat.le_of_eq hhi)
      clear hlo hhi
      refine hKX.out _ _ (by first | exact m9_of HM.out | exact m9_of HMK.out) (fun hh => ?_)
      clear hKX KX
      try go_frame
      refine tkA 8 _ hh ?_
      try go_frame
      refine rdH [10] ?_
      refine AllReadyH.cons (o := _) (by simp only [List.getElem?_toArray,List.getElem?_cons_succ,List.getElem?_cons_zero]; rfl) (fun KX hKX => ?_) AllReadyH.nil
      clear hh
      obtain ⟨⟨r0,r1,r2,r3,r4,r5,r6,r7,r8,r9,r10,r11⟩,rf⟩ := b12 HGW.out
      go_simp
      clear r0 r1 r2 r3 r4 r5 r6 r7 r8 r9 r10 r11 rf
      obtain ⟨w9,hw9,hk9,hb9⟩ := set12_ex wx3 gw HGW.out (.pointer (some ⟨tb,0,none⟩)) (.string m.name) (.slice pp np cp) (.int .i64 m.ret.1) (.string m.ret.2) (.bool m.st) (.bool m.ab) (.int .i64 m.locals) (.slice pc nc cc) (.slice ph nh ch) (.slice (some ⟨fb,0,none⟩) nc nc) (.pointer (some ⟨wb,0,none⟩))
      rw [<- hw9]
      have HK9 := hid hk9
      have HB9 := hid hb9
      have HMK := hid (blk_k HM.out hk9 (Nat.ne_of_lt (Nat.lt_of_lt_of_le HGG.out HGWL.out)))
      clear hw9 hk9 hb9
      refine hKX.out _ _ (by first | exact m9_of HM.out | exact m9_of HMK.out) (fun hh => ?_)
      clear hKX KX
      try go_frame
      refine wpAnyH_done (by kernel_rfl) ?_ _
      clear hh
      go_wp2_with fail
      go_meet
      case rel => exact ⟨gw,fb,wb,(fun b => lo <= b /\ b < hi),rfl,hid (fl_begin HK9.out HB9.out HFB.out HWQ.out HNG.out HNF.out HNE.out (fun b hb => Nat.le_trans HLO.out hb.1) HFBL.out HGWL.out HBX.out)⟩
     refine AllReadyH.cons (o := _) (by simp only [List.getElem?_toArray,List.getElem?_cons_succ,List.getElem?_cons_zero]; rfl) (fun KX hKX => ?_) ?_
     ·clear hh
      go_simp
      refine (new_w HLT.out HBX.out).mono ?_
      rintro e wx1 ⟨wb,rfl,hq,hlo,hbn,h2⟩
      have HWQ := hid hq
      have HLO := hid hlo
      replace HM := hid (blk_b HM.out hbn)
      replace HLT := hid (blk_b HLT.out hbn)
      replace HBX := hid h2
      clear hbn hq hlo h2
      obtain ⟨lo,hlo⟩ : ∃ z,wx0.heap.size = z := ⟨_,rfl⟩
      rw [hlo] at HWQ HLO 
      obtain ⟨hi,hhi⟩ : ∃ z,z = wx1.heap.size := ⟨_,rfl⟩
      rw [<- hhi] at HWQ 
      have HHI : Hid (hi <= wx1.heap.size) := hid (Nat.le_of_eq hhi)
      clear hlo hhi
      refine hKX.out _ _ (by first | exact m9_of HM.out | exact m9_of HMK.out) (fun hh => ?_)
      clear hKX KX
      try go_frame
      refine rdH [5,9] ?_
      refine AllReadyH.cons (o := _) (by simp only [List.getElem?_toArray,List.getElem?_cons_succ,List.getElem?_cons_zero]; rfl) (fun KX hKX => ?_) ?_
      ·clear hh
       go_simp
       have HNF : Hid (¬ (lo <= wx1.heap.size /\ wx1.heap.size < hi)) := hid (by have := HHI.out; omega)
       obtain ⟨wx2,hw_,h1,hbn,h2,h3⟩ := al_ex (madeCells #[.bool false,.slice none 0 0,.slice none 0 0] (nc * 3)) 61 HBX.out
       have HFB := hid h1
       have HFBL := hid h3
       replace HM := hid (blk_b HM.out hbn)
       replace HWQ := hid (HWQ.out.bel hbn)
       replace HBX := hid h2
       rw [<- hw_]
       replace HHI := hid (Nat.le_trans HHI.out hbn.size)
       clear h1 hbn h2 h3 hw_
       obtain ⟨fb,hv_⟩ : ∃ z,wx1.heap.size = z := ⟨_,rfl⟩
       rw [hv_] at HFB HFBL HNF ⊢
       clear hv_
       refine hKX.out _ _ (by first | exact m9_of HM.out | exact m9_of HMK.out) (fun hh => ?_)
       clear hKX KX
       try go_frame
       refine tkA 8 _ hh ?_
       try go_frame
       refine rdH [9] ?_
       refine AllReadyH.cons (o := _) (by simp only [List.getElem?_toArray,List.getElem?_cons_succ,List.getElem?_cons_zero]; rfl) (fun KX hKX => ?_) AllReadyH.nil
       clear hh
       go_simp
       have HNE : Hid (wx2.heap.size ≠ fb) := hid (Nat.ne_of_gt (Array.getElem?_eq_some_iff.1 HFB.out).1)
       have HNG : Hid (¬ (lo <= wx2.heap.size /\ wx2.heap.size < hi)) := hid (by have := HHI.out; omega)
       obtain ⟨wx3,hw_,h1,hbn,h2,h3⟩ := al_ex (#[.pointer none,.string ⟨#[]⟩,.slice none 0 0,.int .i64 0,.string ⟨#[]⟩,.bool false,.bool false,.int .i64 0,.slice none 0 0,.slice none 0 0,.slice none 0 0,.pointer none]) 108 HBX.out
       have HGW := hid h1
       have HGWL := hid h3
       replace HM := hid (blk_b HM.out hbn)
       replace HWQ := hid (HWQ.out.bel hbn)
       replace HFB := hid (blk_b HFB.out hbn)
       replace HBX := hid h2
       rw [<- hw_]
       replace HHI := hid (Nat.le_trans HHI.out hbn.size)
       clear h1 hbn h2 h3 hw_
       obtain ⟨gw,hv_⟩ : ∃ z,wx2.heap.size = z := ⟨_,rfl⟩
       rw [hv_] at HGW HGWL HNE HNG ⊢
       clear hv_
       refine hKX.out _ _ (by first | exact m9_of HM.out | exact m9_of HMK.out) (fun hh => ?_)
       clear hKX KX
       try go_frame
       refine rdH [10] ?_
       refine AllReadyH.cons (o := _) (by simp only [List.getElem?_toArray,List.getElem?_cons_succ,List.getElem?_cons_zero]; rfl) (fun KX hKX => ?_) AllReadyH.nil
       clear hh
       obtain ⟨⟨r0,r1,r2,r3,r4,r5,r6,r7,r8,r9,r10,r11⟩,rf⟩ := b12 HGW.out
       go_simp
       clear r0 r1 r2 r3 r4 r5 r6 r7 r8 r9 r10 r11 rf
       obtain ⟨w9,hw9,hk9,hb9⟩ := set12_ex wx3 gw HGW.out (.pointer (some ⟨tb,0,none⟩)) (.string m.name) (.slice pp np cp) (.int .i64 m.ret.1) (.string m.ret.2) (.bool m.st) (.bool m.ab) (.int .i64 m.locals) (.slice pc nc cc) (.slice ph nh ch) (.slice (some ⟨fb,0,none⟩) nc nc) (.pointer (some ⟨wb,0,none⟩))
       rw [<- hw9]
       have HK9 := hid hk9
       have HB9 := hid hb9
       have HMK := hid (blk_k HM.out hk9 (Nat.ne_of_lt (Nat.lt_of_lt_of_le HGG.out HGWL.out)))
       clear hw9 hk9 hb9
       refine hKX.out _ _ (by first | exact m9_of HM.out | exact m9_of HMK.out) (fun hh => ?_)
       clear hKX KX
       try go_frame
       refine wpAnyH_done (by kernel_rfl) ?_ _
       clear hh
       go_wp2_with fail
       go_meet
       case rel => exact ⟨gw,fb,wb,(fun b => lo <= b /\ b < hi),rfl,hid (fl_begin HK9.out HB9.out HFB.out HWQ.out HNG.out HNF.out HNE.out (fun b hb => Nat.le_trans HLO.out hb.1) HFBL.out HGWL.out HBX.out)⟩
      refine AllReadyH.cons (o := _) (by simp only [List.getElem?_toArray,List.getElem?_cons_succ,List.getElem?_cons_zero]; rfl) (fun KX hKX => ?_) AllReadyH.nil
      clear hh
      go_simp
      have HNG : Hid (¬ (lo <= wx1.heap.size /\ wx1.heap.size < hi)) := hid (by have := HHI.out; omega)
      obtain ⟨wx2,hw_,h1,hbn,h2,h3⟩ := al_ex (#[.pointer none,.string ⟨#[]⟩,.slice none 0 0,.int .i64 0,.string ⟨#[]⟩,.bool false,.bool false,.int .i64 0,.slice none 0 0,.slice none 0 0,.slice none 0 0,.pointer none]) 108 HBX.out
      have HGW := hid h1
      have HGWL := hid h3
      replace HM := hid (blk_b HM.out hbn)
      replace HWQ := hid (HWQ.out.bel hbn)
      replace HBX := hid h2
      rw [<- hw_]
      replace HHI := hid (Nat.le_trans HHI.out hbn.size)
      clear h1 hbn h2 h3 hw_
      obtain ⟨gw,hv_⟩ : ∃ z,wx1.heap.size = z := ⟨_,rfl⟩
      rw [hv_] at HGW HGWL HNG ⊢
      clear hv_
      refine hKX.out _ _ (by first | exact m9_of HM.out | exact m9_of HMK.out) (fun hh => ?_)
      clear hKX KX
      try go_frame
      refine rdH [5] ?_
      refine AllReadyH.cons (o := _) (by simp only [List.getElem?_toArray,List.getElem?_cons_succ,List.getElem?_cons_zero]; rfl) (fun KX hKX => ?_) AllReadyH.nil
      clear hh
      go_simp
      have HNE : Hid (gw ≠ wx2.heap.size) := hid (Nat.ne_of_lt (Array.getElem?_eq_some_iff.1 HGW.out).1)
      have HNF : Hid (¬ (lo <= wx2.heap.size /\ wx2.heap.size < hi)) := hid (by have := HHI.out; omega)
      obtain ⟨wx3,hw_,h1,hbn,h2,h3⟩ := al_ex (madeCells #[.bool false,.slice none 0 0,.slice none 0 0] (nc * 3)) 61 HBX.out
      have HFB := hid h1
      have HFBL := hid h3
      replace HM := hid (blk_b HM.out hbn)
      replace HWQ := hid (HWQ.out.bel hbn)
      replace HGW := hid (blk_b HGW.out hbn)
      replace HBX := hid h2
      rw [<- hw_]
      replace HHI := hid (Nat.le_trans HHI.out hbn.size)
      clear h1 hbn h2 h3 hw_
      obtain ⟨fb,hv_⟩ : ∃ z,wx2.heap.size = z := ⟨_,rfl⟩
      rw [hv_] at HFB HFBL HNE HNF ⊢
      clear hv_
      refine hKX.out _ _ (by first | exact m9_of HM.out | exact m9_of HMK.out) (fun hh => ?_)
      clear hKX KX
      try go_frame
      refine tkA 8 _ hh ?_
      try go_frame
      refine rdH [10] ?_
      refine AllReadyH.cons (o := _) (by simp only [List.getElem?_toArray,List.getElem?_cons_succ,List.getElem?_cons_zero]; rfl) (fun KX hKX => ?_) AllReadyH.nil
      clear hh
      obtain ⟨⟨r0,r1,r2,r3,r4,r5,r6,r7,r8,r9,r10,r11⟩,rf⟩ := b12 HGW.out
      go_simp
      clear r0 r1 r2 r3 r4 r5 r6 r7 r8 r9 r10 r11 rf
      obtain ⟨w9,hw9,hk9,hb9⟩ := set12_ex wx3 gw HGW.out (.pointer (some ⟨tb,0,none⟩)) (.string m.name) (.slice pp np cp) (.int .i64 m.ret.1) (.string m.ret.2) (.bool m.st) (.bool m.ab) (.int .i64 m.locals) (.slice pc nc cc) (.slice ph nh ch) (.slice (some ⟨fb,0,none⟩) nc nc) (.pointer (some ⟨wb,0,none⟩))
      rw [<- hw9]
      have HK9 := hid hk9
      have HB9 := hid hb9
      have HMK := hid (blk_k HM.out hk9 (Nat.ne_of_lt (Nat.lt_of_lt_of_le HGG.out HGWL.out)))
      clear hw9 hk9 hb9
      refine hKX.out _ _ (by first | exact m9_of HM.out | exact m9_of HMK.out) (fun hh => ?_)
      clear hKX KX
      try go_frame
      refine wpAnyH_done (by kernel_rfl) ?_ _
      clear hh
      go_wp2_with fail
      go_meet
      case rel => exact ⟨gw,fb,wb,(fun b => lo <= b /\ b < hi),rfl,hid (fl_begin HK9.out HB9.out HFB.out HWQ.out HNG.out HNF.out HNE.out (fun b hb => Nat.le_trans HLO.out hb.1) HFBL.out HGWL.out HBX.out)⟩
     refine AllReadyH.cons (o := _) (by simp only [List.getElem?_toArray,List.getElem?_cons_succ,List.getElem?_cons_zero]; rfl) (fun KX hKX => ?_) AllReadyH.nil
     clear hh
     go_simp
     obtain ⟨wx1,hw_,h1,hbn,h2,h3⟩ := al_ex (#[.pointer none,.string ⟨#[]⟩,.slice none 0 0,.int .i64 0,.string ⟨#[]⟩,.bool false,.bool false,.int .i64 0,.slice none 0 0,.slice none 0 0,.slice none 0 0,.pointer none]) 108 HBX.out
     have HGW := hid h1
     have HGWL := hid h3
     replace HM := hid (blk_b HM.out hbn)
     replace HLT := hid (blk_b HLT.out hbn)
     replace HBX := hid h2
     rw [<- hw_]
     clear h1 hbn h2 h3 hw_
     obtain ⟨gw,hv_⟩ : ∃ z,wx0.heap.size = z := ⟨_,rfl⟩
     rw [hv_] at HGW HGWL ⊢
     clear hv_
     refine hKX.out _ _ (by first | exact m9_of HM.out | exact m9_of HMK.out) (fun hh => ?_)
     clear hKX KX
     try go_frame
     refine rdH [5,7] ?_
     refine AllReadyH.cons (o := _) (by simp only [List.getElem?_toArray,List.getElem?_cons_succ,List.getElem?_cons_zero]; rfl) (fun KX hKX => ?_) ?_
     ·clear hh
      go_simp
      have HNE : Hid (gw ≠ wx1.heap.size) := hid (Nat.ne_of_lt (Array.getElem?_eq_some_iff.1 HGW.out).1)
      obtain ⟨wx2,hw_,h1,hbn,h2,h3⟩ := al_ex (madeCells #[.bool false,.slice none 0 0,.slice none 0 0] (nc * 3)) 61 HBX.out
      have HFB := hid h1
      have HFBL := hid h3
      replace HM := hid (blk_b HM.out hbn)
      replace HLT := hid (blk_b HLT.out hbn)
      replace HGW := hid (blk_b HGW.out hbn)
      replace HBX := hid h2
      rw [<- hw_]
      clear h1 hbn h2 h3 hw_
      obtain ⟨fb,hv_⟩ : ∃ z,wx1.heap.size = z := ⟨_,rfl⟩
      rw [hv_] at HFB HFBL HNE ⊢
      clear hv_
      refine hKX.out _ _ (by first | exact m9_of HM.out | exact m9_of HMK.out) (fun hh => ?_)
      clear hKX KX
      try go_frame
      refine rdH [7] ?_
      refine AllReadyH.cons (o := _) (by simp only [List.getElem?_toArray,List.getElem?_cons_succ,List.getElem?_cons_zero]; rfl) (fun KX hKX => ?_) AllReadyH.nil
      clear hh
      go_simp
      refine (new_w HLT.out HBX.out).mono ?_
      rintro e wx3 ⟨wb,rfl,hq,hlo,hbn,h2⟩
      have HWQ := hid hq
      have HLO := hid hlo
      have HNF : Hid (¬ (wx2.heap.size <= fb /\ fb < wx3.heap.size)) := hid (by have := (Array.getElem?_eq_some_iff.1 HFB.out).1; omega)
      have HNG : Hid (¬ (wx2.heap.size <= gw /\ gw < wx3.heap.size)) := hid (by have := (Array.getElem?_eq_some_iff.1 HGW.out).1; omega)
      replace HM := hid (blk_b HM.out hbn)
      replace HLT := hid (blk_b HLT.out hbn)
      replace HGW := hid (blk_b HGW.out hbn)
      replace HFB := hid (blk_b HFB.out hbn)
      replace HBX := hid h2
      clear hbn hq hlo h2
      obtain ⟨lo,hlo⟩ : ∃ z,wx2.heap.size = z := ⟨_,rfl⟩
      rw [hlo] at HWQ HLO HNF HNG
      obtain ⟨hi,hhi⟩ : ∃ z,z = wx3.heap.size := ⟨_,rfl⟩
      rw [<- hhi] at HWQ HNF HNG
      have HHI : Hid (hi <= wx3.heap.size) := hid (Nat.le_of_eq hhi)
      clear hlo hhi
      refine hKX.out _ _ (by first | exact m9_of HM.out | exact m9_of HMK.out) (fun hh => ?_)
      clear hKX KX
      try go_frame
      refine tkA 8 _ hh ?_
      try go_frame
      refine rdH [10] ?_
      refine AllReadyH.cons (o := _) (by simp only [List.getElem?_toArray,List.getElem?_cons_succ,List.getElem?_cons_zero]; rfl) (fun KX hKX => ?_) AllReadyH.nil
      clear hh
      obtain ⟨⟨r0,r1,r2,r3,r4,r5,r6,r7,r8,r9,r10,r11⟩,rf⟩ := b12 HGW.out
      go_simp
      clear r0 r1 r2 r3 r4 r5 r6 r7 r8 r9 r10 r11 rf
      obtain ⟨w9,hw9,hk9,hb9⟩ := set12_ex wx3 gw HGW.out (.pointer (some ⟨tb,0,none⟩)) (.string m.name) (.slice pp np cp) (.int .i64 m.ret.1) (.string m.ret.2) (.bool m.st) (.bool m.ab) (.int .i64 m.locals) (.slice pc nc cc) (.slice ph nh ch) (.slice (some ⟨fb,0,none⟩) nc nc) (.pointer (some ⟨wb,0,none⟩))
      rw [<- hw9]
      have HK9 := hid hk9
      have HB9 := hid hb9
      have HMK := hid (blk_k HM.out hk9 (Nat.ne_of_lt (Nat.lt_of_lt_of_le HGG.out HGWL.out)))
      clear hw9 hk9 hb9
      refine hKX.out _ _ (by first | exact m9_of HM.out | exact m9_of HMK.out) (fun hh => ?_)
      clear hKX KX
      try go_frame
      refine wpAnyH_done (by kernel_rfl) ?_ _
      clear hh
      go_wp2_with fail
      go_meet
      case rel => exact ⟨gw,fb,wb,(fun b => lo <= b /\ b < hi),rfl,hid (fl_begin HK9.out HB9.out HFB.out HWQ.out HNG.out HNF.out HNE.out (fun b hb => Nat.le_trans HLO.out hb.1) HFBL.out HGWL.out HBX.out)⟩
     refine AllReadyH.cons (o := _) (by simp only [List.getElem?_toArray,List.getElem?_cons_succ,List.getElem?_cons_zero]; rfl) (fun KX hKX => ?_) AllReadyH.nil
     clear hh
     go_simp
     refine (new_w HLT.out HBX.out).mono ?_
     rintro e wx2 ⟨wb,rfl,hq,hlo,hbn,h2⟩
     have HWQ := hid hq
     have HLO := hid hlo
     have HNG : Hid (¬ (wx1.heap.size <= gw /\ gw < wx2.heap.size)) := hid (by have := (Array.getElem?_eq_some_iff.1 HGW.out).1; omega)
     replace HM := hid (blk_b HM.out hbn)
     replace HLT := hid (blk_b HLT.out hbn)
     replace HGW := hid (blk_b HGW.out hbn)
     replace HBX := hid h2
     clear hbn hq hlo h2
     obtain ⟨lo,hlo⟩ : ∃ z,wx1.heap.size = z := ⟨_,rfl⟩
     rw [hlo] at HWQ HLO HNG
     obtain ⟨hi,hhi⟩ : ∃ z,z = wx2.heap.size := ⟨_,rfl⟩
     rw [<- hhi] at HWQ HNG
     have HHI : Hid (hi <= wx2.heap.size) := hid (Nat.le_of_eq hhi)
     clear hlo hhi
     refine hKX.out _ _ (by first | exact m9_of HM.out | exact m9_of HMK.out) (fun hh => ?_)
     clear hKX KX
     try go_frame
     refine rdH [5] ?_
     refine AllReadyH.cons (o := _) (by simp only [List.getElem?_toArray,List.getElem?_cons_succ,List.getElem?_cons_zero]; rfl) (fun KX hKX => ?_) AllReadyH.nil
     clear hh
     go_simp
     have HNE : Hid (gw ≠ wx2.heap.size) := hid (Nat.ne_of_lt (Array.getElem?_eq_some_iff.1 HGW.out).1)
     have HNF : Hid (¬ (lo <= wx2.heap.size /\ wx2.heap.size < hi)) := hid (by have := HHI.out; omega)
     obtain ⟨wx3,hw_,h1,hbn,h2,h3⟩ := al_ex (madeCells #[.bool false,.slice none 0 0,.slice none 0 0] (nc * 3)) 61 HBX.out
     have HFB := hid h1
     have HFBL := hid h3
     replace HM := hid (blk_b HM.out hbn)
     replace HGW := hid (blk_b HGW.out hbn)
     replace HWQ := hid (HWQ.out.bel hbn)
     replace HBX := hid h2
     rw [<- hw_]
     replace HHI := hid (Nat.le_trans HHI.out hbn.size)
     clear h1 hbn h2 h3 hw_
     obtain ⟨fb,hv_⟩ : ∃ z,wx2.heap.size = z := ⟨_,rfl⟩
     rw [hv_] at HFB HFBL HNE HNF ⊢
     clear hv_
     refine hKX.out _ _ (by first | exact m9_of HM.out | exact m9_of HMK.out) (fun hh => ?_)
     clear hKX KX
     try go_frame
     refine tkA 8 _ hh ?_
     try go_frame
     refine rdH [10] ?_
     refine AllReadyH.cons (o := _) (by simp only [List.getElem?_toArray,List.getElem?_cons_succ,List.getElem?_cons_zero]; rfl) (fun KX hKX => ?_) AllReadyH.nil
     clear hh
     obtain ⟨⟨r0,r1,r2,r3,r4,r5,r6,r7,r8,r9,r10,r11⟩,rf⟩ := b12 HGW.out
     go_simp
     clear r0 r1 r2 r3 r4 r5 r6 r7 r8 r9 r10 r11 rf
     obtain ⟨w9,hw9,hk9,hb9⟩ := set12_ex wx3 gw HGW.out (.pointer (some ⟨tb,0,none⟩)) (.string m.name) (.slice pp np cp) (.int .i64 m.ret.1) (.string m.ret.2) (.bool m.st) (.bool m.ab) (.int .i64 m.locals) (.slice pc nc cc) (.slice ph nh ch) (.slice (some ⟨fb,0,none⟩) nc nc) (.pointer (some ⟨wb,0,none⟩))
     rw [<- hw9]
     have HK9 := hid hk9
     have HB9 := hid hb9
     have HMK := hid (blk_k HM.out hk9 (Nat.ne_of_lt (Nat.lt_of_lt_of_le HGG.out HGWL.out)))
     clear hw9 hk9 hb9
     refine hKX.out _ _ (by first | exact m9_of HM.out | exact m9_of HMK.out) (fun hh => ?_)
     clear hKX KX
     try go_frame
     refine wpAnyH_done (by kernel_rfl) ?_ _
     clear hh
     go_wp2_with fail
     go_meet
     case rel => exact ⟨gw,fb,wb,(fun b => lo <= b /\ b < hi),rfl,hid (fl_begin HK9.out HB9.out HFB.out HWQ.out HNG.out HNF.out HNE.out (fun b hb => Nat.le_trans HLO.out hb.1) HFBL.out HGWL.out HBX.out)⟩
    refine AllReadyH.cons (o := _) (by simp only [List.getElem?_toArray,List.getElem?_cons_succ,List.getElem?_cons_zero]; rfl) (fun KX hKX => ?_) AllReadyH.nil
    clear hh
    go_simp
    obtain ⟨wx0,hw_,h1,hbn,h2,h3⟩ := al_ex (#[.pointer none,.string ⟨#[]⟩,.slice none 0 0,.int .i64 0,.string ⟨#[]⟩,.bool false,.bool false,.int .i64 0,.slice none 0 0,.slice none 0 0,.slice none 0 0,.pointer none]) 108 HBX.out
    have HGW := hid h1
    have HGWL := hid h3
    replace HM := hid (blk_b HM.out hbn)
    replace HBX := hid h2
    rw [<- hw_]
    clear h1 hbn h2 h3 hw_
    obtain ⟨gw,hv_⟩ : ∃ z,wd.heap.size = z := ⟨_,rfl⟩
    rw [hv_] at HGW HGWL ⊢
    clear hv_
    refine hKX.out _ _ (by first | exact m9_of HM.out | exact m9_of HMK.out) (fun hh => ?_)
    clear hKX KX
    try go_frame
    refine rdH [5,6] ?_
    refine AllReadyH.cons (o := _) (by simp only [List.getElem?_toArray,List.getElem?_cons_succ,List.getElem?_cons_zero]; rfl) (fun KX hKX => ?_) ?_
    ·clear hh
     go_simp
     have HNE : Hid (gw ≠ wx0.heap.size) := hid (Nat.ne_of_lt (Array.getElem?_eq_some_iff.1 HGW.out).1)
     obtain ⟨wx1,hw_,h1,hbn,h2,h3⟩ := al_ex (madeCells #[.bool false,.slice none 0 0,.slice none 0 0] (nc * 3)) 61 HBX.out
     have HFB := hid h1
     have HFBL := hid h3
     replace HM := hid (blk_b HM.out hbn)
     replace HGW := hid (blk_b HGW.out hbn)
     replace HBX := hid h2
     rw [<- hw_]
     clear h1 hbn h2 h3 hw_
     obtain ⟨fb,hv_⟩ : ∃ z,wx0.heap.size = z := ⟨_,rfl⟩
     rw [hv_] at HFB HFBL HNE ⊢
     clear hv_
     refine hKX.out _ _ (by first | exact m9_of HM.out | exact m9_of HMK.out) (fun hh => ?_)
     clear hKX KX
     try go_frame
     refine rdH [6] ?_
     refine AllReadyH.cons (o := _) (by simp only [List.getElem?_toArray,List.getElem?_cons_succ,List.getElem?_cons_zero]; rfl) (fun KX hKX => ?_) AllReadyH.nil
     clear hh
     go_simp
     obtain ⟨wx2,hw_,h1,hbn,h2,h3⟩ := al_ex (#[.int .i64 0]) 3 HBX.out
     have HLT := hid h1
     replace HM := hid (blk_b HM.out hbn)
     replace HGW := hid (blk_b HGW.out hbn)
     replace HFB := hid (blk_b HFB.out hbn)
     replace HBX := hid h2
     rw [<- hw_]
     clear h1 hbn h2 h3 hw_
     refine hKX.out _ _ (by first | exact m9_of HM.out | exact m9_of HMK.out) (fun hh => ?_)
     clear hKX KX
     try go_frame
     refine rdH [7] ?_
     refine AllReadyH.cons (o := _) (by simp only [List.getElem?_toArray,List.getElem?_cons_succ,List.getElem?_cons_zero]; rfl) (fun KX hKX => ?_) AllReadyH.nil
     clear hh
     go_simp
     refine (new_w HLT.out HBX.out).mono ?_
     rintro e wx3 ⟨wb,rfl,hq,hlo,hbn,h2⟩
     have HWQ := hid hq
     have HLO := hid hlo
     have HNF : Hid (¬ (wx2.heap.size <= fb /\ fb < wx3.heap.size)) := hid (by have := (Array.getElem?_eq_some_iff.1 HFB.out).1; omega)
     have HNG : Hid (¬ (wx2.heap.size <= gw /\ gw < wx3.heap.size)) := hid (by have := (Array.getElem?_eq_some_iff.1 HGW.out).1; omega)
     replace HM := hid (blk_b HM.out hbn)
     replace HGW := hid (blk_b HGW.out hbn)
     replace HFB := hid (blk_b HFB.out hbn)
     replace HLT := hid (blk_b HLT.out hbn)
     replace HBX := hid h2
     clear hbn hq hlo h2
     obtain ⟨lo,hlo⟩ : ∃ z,wx2.heap.size = z := ⟨_,rfl⟩
     rw [hlo] at HWQ HLO HNF HNG
     obtain ⟨hi,hhi⟩ : ∃ z,z = wx3.heap.size := ⟨_,rfl⟩
     rw [<- hhi] at HWQ HNF HNG
     have HHI : Hid (hi <= wx3.heap.size) := hid (Nat.le_of_eq hhi)
     clear hlo hhi
     refine hKX.out _ _ (by first | exact m9_of HM.out | exact m9_of HMK.out) (fun hh => ?_)
     clear hKX KX
     try go_frame
     refine tkA 8 _ hh ?_
     try go_frame
     refine rdH [10] ?_
     refine AllReadyH.cons (o := _) (by simp only [List.getElem?_toArray,List.getElem?_cons_succ,List.getElem?_cons_zero]; rfl) (fun KX hKX => ?_) AllReadyH.nil
     clear hh
     obtain ⟨⟨r0,r1,r2,r3,r4,r5,r6,r7,r8,r9,r10,r11⟩,rf⟩ := b12 HGW.out
     go_simp
     clear r0 r1 r2 r3 r4 r5 r6 r7 r8 r9 r10 r11 rf
     obtain ⟨w9,hw9,hk9,hb9⟩ := set12_ex wx3 gw HGW.out (.pointer (some ⟨tb,0,none⟩)) (.string m.name) (.slice pp np cp) (.int .i64 m.ret.1) (.string m.ret.2) (.bool m.st) (.bool m.ab) (.int .i64 m.locals) (.slice pc nc cc) (.slice ph nh ch) (.slice (some ⟨fb,0,none⟩) nc nc) (.pointer (some ⟨wb,0,none⟩))
     rw [<- hw9]
     have HK9 := hid hk9
     have HB9 := hid hb9
     have HMK := hid (blk_k HM.out hk9 (Nat.ne_of_lt (Nat.lt_of_lt_of_le HGG.out HGWL.out)))
     clear hw9 hk9 hb9
     refine hKX.out _ _ (by first | exact m9_of HM.out | exact m9_of HMK.out) (fun hh => ?_)
     clear hKX KX
     try go_frame
     refine wpAnyH_done (by kernel_rfl) ?_ _
     clear hh
     go_wp2_with fail
     go_meet
     case rel => exact ⟨gw,fb,wb,(fun b => lo <= b /\ b < hi),rfl,hid (fl_begin HK9.out HB9.out HFB.out HWQ.out HNG.out HNF.out HNE.out (fun b hb => Nat.le_trans HLO.out hb.1) HFBL.out HGWL.out HBX.out)⟩
    refine AllReadyH.cons (o := _) (by simp only [List.getElem?_toArray,List.getElem?_cons_succ,List.getElem?_cons_zero]; rfl) (fun KX hKX => ?_) AllReadyH.nil
    clear hh
    go_simp
    obtain ⟨wx1,hw_,h1,hbn,h2,h3⟩ := al_ex (#[.int .i64 0]) 3 HBX.out
    have HLT := hid h1
    replace HM := hid (blk_b HM.out hbn)
    replace HGW := hid (blk_b HGW.out hbn)
    replace HBX := hid h2
    rw [<- hw_]
    clear h1 hbn h2 h3 hw_
    refine hKX.out _ _ (by first | exact m9_of HM.out | exact m9_of HMK.out) (fun hh => ?_)
    clear hKX KX
    try go_frame
    refine rdH [5,7] ?_
    refine AllReadyH.cons (o := _) (by simp only [List.getElem?_toArray,List.getElem?_cons_succ,List.getElem?_cons_zero]; rfl) (fun KX hKX => ?_) ?_
    ·clear hh
     go_simp
     have HNE : Hid (gw ≠ wx1.heap.size) := hid (Nat.ne_of_lt (Array.getElem?_eq_some_iff.1 HGW.out).1)
     obtain ⟨wx2,hw_,h1,hbn,h2,h3⟩ := al_ex (madeCells #[.bool false,.slice none 0 0,.slice none 0 0] (nc * 3)) 61 HBX.out
     have HFB := hid h1
     have HFBL := hid h3
     replace HM := hid (blk_b HM.out hbn)
     replace HGW := hid (blk_b HGW.out hbn)
     replace HLT := hid (blk_b HLT.out hbn)
     replace HBX := hid h2
     rw [<- hw_]
     clear h1 hbn h2 h3 hw_
     obtain ⟨fb,hv_⟩ : ∃ z,wx1.heap.size = z := ⟨_,rfl⟩
     rw [hv_] at HFB HFBL HNE ⊢
     clear hv_
     refine hKX.out _ _ (by first | exact m9_of HM.out | exact m9_of HMK.out) (fun hh => ?_)
     clear hKX KX
     try go_frame
     refine rdH [7] ?_
     refine AllReadyH.cons (o := _) (by simp only [List.getElem?_toArray,List.getElem?_cons_succ,List.getElem?_cons_zero]; rfl) (fun KX hKX => ?_) AllReadyH.nil
     clear hh
     go_simp
     refine (new_w HLT.out HBX.out).mono ?_
     rintro e wx3 ⟨wb,rfl,hq,hlo,hbn,h2⟩
     have HWQ := hid hq
     have HLO := hid hlo
     have HNF : Hid (¬ (wx2.heap.size <= fb /\ fb < wx3.heap.size)) := hid (by have := (Array.getElem?_eq_some_iff.1 HFB.out).1; omega)
     have HNG : Hid (¬ (wx2.heap.size <= gw /\ gw < wx3.heap.size)) := hid (by have := (Array.getElem?_eq_some_iff.1 HGW.out).1; omega)
     replace HM := hid (blk_b HM.out hbn)
     replace HGW := hid (blk_b HGW.out hbn)
     replace HLT := hid (blk_b HLT.out hbn)
     replace HFB := hid (blk_b HFB.out hbn)
     replace HBX := hid h2
     clear hbn hq hlo h2
     obtain ⟨lo,hlo⟩ : ∃ z,wx2.heap.size = z := ⟨_,rfl⟩
     rw [hlo] at HWQ HLO HNF HNG
     obtain ⟨hi,hhi⟩ : ∃ z,z = wx3.heap.size := ⟨_,rfl⟩
     rw [<- hhi] at HWQ HNF HNG
     have HHI : Hid (hi <= wx3.heap.size) := hid (Nat.le_of_eq hhi)
     clear hlo hhi
     refine hKX.out _ _ (by first | exact m9_of HM.out | exact m9_of HMK.out) (fun hh => ?_)
     clear hKX KX
     try go_frame
     refine tkA 8 _ hh ?_
     try go_frame
     refine rdH [10] ?_
     refine AllReadyH.cons (o := _) (by simp only [List.getElem?_toArray,List.getElem?_cons_succ,List.getElem?_cons_zero]; rfl) (fun KX hKX => ?_) AllReadyH.nil
     clear hh
     obtain ⟨⟨r0,r1,r2,r3,r4,r5,r6,r7,r8,r9,r10,r11⟩,rf⟩ := b12 HGW.out
     go_simp
     clear r0 r1 r2 r3 r4 r5 r6 r7 r8 r9 r10 r11 rf
     obtain ⟨w9,hw9,hk9,hb9⟩ := set12_ex wx3 gw HGW.out (.pointer (some ⟨tb,0,none⟩)) (.string m.name) (.slice pp np cp) (.int .i64 m.ret.1) (.string m.ret.2) (.bool m.st) (.bool m.ab) (.int .i64 m.locals) (.slice pc nc cc) (.slice ph nh ch) (.slice (some ⟨fb,0,none⟩) nc nc) (.pointer (some ⟨wb,0,none⟩))
     rw [<- hw9]
     have HK9 := hid hk9
     have HB9 := hid hb9
     have HMK := hid (blk_k HM.out hk9 (Nat.ne_of_lt (Nat.lt_of_lt_of_le HGG.out HGWL.out)))
     clear hw9 hk9 hb9
     refine hKX.out _ _ (by first | exact m9_of HM.out | exact m9_of HMK.out) (fun hh => ?_)
     clear hKX KX
     try go_frame
     refine wpAnyH_done (by kernel_rfl) ?_ _
     clear hh
     go_wp2_with fail
     go_meet
     case rel => exact ⟨gw,fb,wb,(fun b => lo <= b /\ b < hi),rfl,hid (fl_begin HK9.out HB9.out HFB.out HWQ.out HNG.out HNF.out HNE.out (fun b hb => Nat.le_trans HLO.out hb.1) HFBL.out HGWL.out HBX.out)⟩
    refine AllReadyH.cons (o := _) (by simp only [List.getElem?_toArray,List.getElem?_cons_succ,List.getElem?_cons_zero]; rfl) (fun KX hKX => ?_) AllReadyH.nil
    clear hh
    go_simp
    refine (new_w HLT.out HBX.out).mono ?_
    rintro e wx2 ⟨wb,rfl,hq,hlo,hbn,h2⟩
    have HWQ := hid hq
    have HLO := hid hlo
    have HNG : Hid (¬ (wx1.heap.size <= gw /\ gw < wx2.heap.size)) := hid (by have := (Array.getElem?_eq_some_iff.1 HGW.out).1; omega)
    replace HM := hid (blk_b HM.out hbn)
    replace HGW := hid (blk_b HGW.out hbn)
    replace HLT := hid (blk_b HLT.out hbn)
    replace HBX := hid h2
    clear hbn hq hlo h2
    obtain ⟨lo,hlo⟩ : ∃ z,wx1.heap.size = z := ⟨_,rfl⟩
    rw [hlo] at HWQ HLO HNG
    obtain ⟨hi,hhi⟩ : ∃ z,z = wx2.heap.size := ⟨_,rfl⟩
    rw [<- hhi] at HWQ HNG
    have HHI : Hid (hi <= wx2.heap.size) := hid (Nat.le_of_eq hhi)
    clear hlo hhi
    refine hKX.out _ _ (by first | exact m9_of HM.out | exact m9_of HMK.out) (fun hh => ?_)
    clear hKX KX
    try go_frame
    refine rdH [5] ?_
    refine AllReadyH.cons (o := _) (by simp only [List.getElem?_toArray,List.getElem?_cons_succ,List.getElem?_cons_zero]; rfl) (fun KX hKX => ?_) AllReadyH.nil
    clear hh
    go_simp
    have HNE : Hid (gw ≠ wx2.heap.size) := hid (Nat.ne_of_lt (Array.getElem?_eq_some_iff.1 HGW.out).1)
    have HNF : Hid (¬ (lo <= wx2.heap.size /\ wx2.heap.size < hi)) := hid (by have := HHI.out; omega)
    obtain ⟨wx3,hw_,h1,hbn,h2,h3⟩ := al_ex (madeCells #[.bool false,.slice none 0 0,.slice none 0 0] (nc * 3)) 61 HBX.out
    have HFB := hid h1
    have HFBL := hid h3
    replace HM := hid (blk_b HM.out hbn)
    replace HGW := hid (blk_b HGW.out hbn)
    replace HWQ := hid (HWQ.out.bel hbn)
    replace HBX := hid h2
    rw [<- hw_]
    replace HHI := hid (Nat.le_trans HHI.out hbn.size)
    clear h1 hbn h2 h3 hw_
    obtain ⟨fb,hv_⟩ : ∃ z,wx2.heap.size = z := ⟨_,rfl⟩
    rw [hv_] at HFB HFBL HNE HNF ⊢
    clear hv_
    refine hKX.out _ _ (by first | exact m9_of HM.out | exact m9_of HMK.out) (fun hh => ?_)
    clear hKX KX
    try go_frame
    refine tkA 8 _ hh ?_
    try go_frame
    refine rdH [10] ?_
    refine AllReadyH.cons (o := _) (by simp only [List.getElem?_toArray,List.getElem?_cons_succ,List.getElem?_cons_zero]; rfl) (fun KX hKX => ?_) AllReadyH.nil
    clear hh
    obtain ⟨⟨r0,r1,r2,r3,r4,r5,r6,r7,r8,r9,r10,r11⟩,rf⟩ := b12 HGW.out
    go_simp
    clear r0 r1 r2 r3 r4 r5 r6 r7 r8 r9 r10 r11 rf
    obtain ⟨w9,hw9,hk9,hb9⟩ := set12_ex wx3 gw HGW.out (.pointer (some ⟨tb,0,none⟩)) (.string m.name) (.slice pp np cp) (.int .i64 m.ret.1) (.string m.ret.2) (.bool m.st) (.bool m.ab) (.int .i64 m.locals) (.slice pc nc cc) (.slice ph nh ch) (.slice (some ⟨fb,0,none⟩) nc nc) (.pointer (some ⟨wb,0,none⟩))
    rw [<- hw9]
    have HK9 := hid hk9
    have HB9 := hid hb9
    have HMK := hid (blk_k HM.out hk9 (Nat.ne_of_lt (Nat.lt_of_lt_of_le HGG.out HGWL.out)))
    clear hw9 hk9 hb9
    refine hKX.out _ _ (by first | exact m9_of HM.out | exact m9_of HMK.out) (fun hh => ?_)
    clear hKX KX
    try go_frame
    refine wpAnyH_done (by kernel_rfl) ?_ _
    clear hh
    go_wp2_with fail
    go_meet
    case rel => exact ⟨gw,fb,wb,(fun b => lo <= b /\ b < hi),rfl,hid (fl_begin HK9.out HB9.out HFB.out HWQ.out HNG.out HNF.out HNE.out (fun b hb => Nat.le_trans HLO.out hb.1) HFBL.out HGWL.out HBX.out)⟩
   case rest =>
    obtain ⟨gw,fb,wb,okW,rfl,HI⟩ := hcut
    have hbw := HI.out.2.2.2.2.2.2.2.2
    replace HM := hid (blk_b HM.out hbw)
    have HGW : Hid (g < w2.heap.size /\ w2.heap.size <= fb) := hid ⟨HGL.out,HI.out.2.2.2.2.2.2.2.1⟩
    obtain ⟨ef,hef⟩ : ∃ z,entryP cls m.params m.st m.locals = z := ⟨_,rfl⟩
    have HEF := hid hef
    have HEZ : Hid (szB ef = true) := hid (by rw [<- hef]; exact entry_sz HSZ.out.1 HSZ.out.2.2.1 HSZ.out.2.2.2.2.2.2.2.2)
    clear hef hbw
    go_upto_region 10 with fail
    have hbn := (Below.refl wc.heap.size wc).drew
    replace HI := hid (HI.out.bel hbn)
    replace HM : Hid (wc.drew.heap[g]? = _) := hid HM.out
    clear hbn
    have n0 : (0 : Int) < (nc : Int) := by have := HNC.out.1; omega
    have n1 : 0 < nc := HNC.out.1
    refine wp_region_held_drew (S := fun W => (W.cell? ⟨gw,10,none⟩ = some (.slice (some ⟨fb,0,none⟩) nc nc)) /\ (W.cell? ⟨g,0,none⟩ = some (.string m.name) /\ W.cell? ⟨g,1,none⟩ = some (.slice pp np cp) /\ W.cell? ⟨g,2,none⟩ = some (.int .i64 m.ret.1) /\ W.cell? ⟨g,3,none⟩ = some (.string m.ret.2) /\ W.cell? ⟨g,4,none⟩ = some (.bool m.st) /\ W.cell? ⟨g,5,none⟩ = some (.bool m.ab) /\ W.cell? ⟨g,6,none⟩ = some (.int .i64 m.locals) /\ W.cell? ⟨g,7,none⟩ = some (.slice pc nc cc) /\ W.cell? ⟨g,8,none⟩ = some (.slice ph nh ch))) (by kernel_rfl) (by first | exact ⟨HI.out.cells.2.1.2.1,m9_of HM.out⟩ | exact ⟨cell_kw HI.out.cells.2.1.2.1 HI.out.cells.1 (set3_kpt _ _ _ _ _ _ _ _) hgne.out.2,m9_of (blk_k HM.out (set3_kpt _ _ _ _ _ _ _ _) hgne.out.1)⟩) (fun hh => ?_)
    refine tkA 0 _ hh ?_
    try go_frame
    refine tkB 1 _ hh ?_
    try go_frame
    refine tkA 2 _ hh ?_
    try go_frame
    refine tkB 3 _ hh ?_
    try go_frame
    refine rdH [4] ?_
    refine AllReadyH.cons (o := _) (by simp only [List.getElem?_toArray,List.getElem?_cons_succ,List.getElem?_cons_zero]; rfl) (fun KX hKX => ?_) AllReadyH.nil
    clear hh
    go_simp
    have hbw := HI.out.2.2.2.2.2.2.2.2
    refine (Entry_g cls m.name m.ret m.st m.ab m.locals pp pc ph np cp nc cc nh ch m.params _ (HP.out.any (sP.grow _) hbw) (fun t ht => sz_small (HSZ.out.2.2.1 t ht)) (by have := HSZ.out.2.2.2.1; omega) HSZ.out.2.2.2.2.2.2.2.2 (sz_small HSZ.out.1)).mono ?_
    rw [HEF.out]
    rintro e w3 ⟨vg,rfl,⟨kl,el,ks,es',rfl,k1,k2⟩,hbn⟩
    have HK : Hid (RdG wc.drew.heap.size w3 (.agg #[.bool ef.1,.slice kl ef.2.1.length el,.slice ks ef.2.2.length es']) ef) := hid ⟨kl,el,ks,es',rfl,k1,k2⟩
    have HNW : Hid (FlI w2 (fun b => okW b /\ b < wc.drew.heap.size) w3 gw fb wb tb m pp pc ph np cp nc cc nh ch (List.replicate nc noFr,[0],[0])) := hid (HI.out.narrow.bel hbn)
    have HFW2 : Hid (fb < wc.drew.heap.size) := hid HI.out.2.1.lt
    have HWC2 : Hid (w2.heap.size <= wc.drew.heap.size) := hid hbw.size
    replace HI := hid (HI.out.bel hbn)
    replace HM := hid (blk_b HM.out hbn)
    clear hbn hbw k1 k2
    refine hKX.out _ _ (by first | exact ⟨HI.out.cells.2.1.2.1,m9_of HM.out⟩ | exact ⟨cell_kw HI.out.cells.2.1.2.1 HI.out.cells.1 (set3_kpt _ _ _ _ _ _ _ _) hgne.out.2,m9_of (blk_k HM.out (set3_kpt _ _ _ _ _ _ _ _) hgne.out.1)⟩) (fun hh => ?_)
    clear hKX KX
    try go_frame
    refine tkA 5 _ hh ?_
    try go_frame
    refine rdH [6] ?_
    refine AllReadyH.cons (o := _) (by simp only [List.getElem?_toArray,List.getElem?_cons_succ,List.getElem?_cons_zero]; rfl) (fun KX hKX => ?_) AllReadyH.nil
    clear hh
    have h00 : (List.replicate nc noFr)[0]? = some noFr := by rw [List.getElem?_replicate,if_pos HNC.out.1]
    obtain ⟨zl',zl2,zs',zs2,-,y0,y1,y2,-⟩ := HI.out.2.1.at h00
    have f0 := HI.out.2.1.frz 0
    have f1 := HI.out.2.1.frz 1
    have f2 := HI.out.2.1.frz 2
    simp only [Nat.zero_mul,Nat.zero_add] at y0 y1 y2
    go_simp
    clear h00 y0 y1 y2 f0 f1 f2
    have hgne : Hid (g ≠ fb /\ gw ≠ fb) := hid ⟨by have := HGW.out; omega,HI.out.2.2.2.2.2.1.2.2⟩
    refine hKX.out _ _ (by first | exact ⟨HI.out.cells.2.1.2.1,m9_of HM.out⟩ | exact ⟨cell_kw HI.out.cells.2.1.2.1 HI.out.cells.1 (set3_kpt _ _ _ _ _ _ _ _) hgne.out.2,m9_of (blk_k HM.out (set3_kpt _ _ _ _ _ _ _ _) hgne.out.1)⟩) (fun hh => ?_)
    clear hKX KX
    try go_frame
    refine wpAnyH_done (by kernel_rfl) ?_ _
    clear hh
    obtain ⟨w4,hw4⟩ : ∃ z,z = (((w3.setCell ⟨fb,0,none⟩ (.bool ef.1)).setCell ⟨fb,1,none⟩ (.slice kl ef.2.1.length el)).setCell ⟨fb,2,none⟩ (.slice ks ef.2.2.length es')) := ⟨_,rfl⟩
    have HI4 : Hid (FlI w2 (fun b => okW b /\ b < wc.drew.heap.size) w4 gw fb wb tb m pp pc ph np cp nc cc nh ch (beginP m.code ef)) := hid (by have h9 := HNW.out.put (i := 0) (by rw [List.length_replicate]; exact HNC.out.1) HEZ.out (HK.out.ro.step (fun b hb _ => ⟨fun hx => by have h2 := hx.2; have h3 : _ <= b := hb; omega,by have := HFW2.out; have h3 : _ <= b := hb; omega,by have := HWC2.out; have h3 : _ <= b := hb; omega⟩) (fun _ _ _ => rfl) (Nat.le_refl _)); simp only [Nat.zero_mul,Nat.zero_add] at h9; rw [hw4]; unfold beginP; rw [<- HN.out.2.1,show ef :: List.replicate (nc - 1) noFr = (List.replicate nc noFr).set 0 ef from by (obtain ⟨q,hq⟩ : ∃ q,nc = q + 1 := ⟨nc - 1,by have := HNC.out.1; omega⟩); rw [hq]; rfl]; exact h9)
    rw [<- hw4]
    clear hw4 HNW HI HK HM
    obtain ⟨okV,hokV⟩ : ∃ z,z = fun b => okW b /\ b < wc.drew.heap.size := ⟨_,rfl⟩
    rw [<- hokV] at HI4
    clear hokV
    go_upto_region 11 with fail
    obtain ⟨wl,⟨c0,c10,c11⟩,-⟩ := HI4.out.cells
    go_wp2_with fail
    clear wl c0 c10 c11
    refine (take_w HI4.out (by show ([0] : List Int).length <= 10000; decide)).mono ?_
    rintro e w5 ⟨rfl,hi5⟩
    have HI5 := hid hi5
    clear hi5 HI4
    obtain ⟨s0,hs0⟩ : ∃ z,beginP m.code ef = z := ⟨_,rfl⟩
    rw [hs0] at HI5 ⊢
    have HR3 : Hid (inferP T m.ret m.code m.hs 60 s0 = some (Rl,Ra,Re)) := hid (by rw [<- hs0,<- HEF.out]; exact HR2.out)
    clear hs0 HR2 HEF HEZ
    go_wp2_with fail
    go_loopg [13,14] 60 (fun k v13 v14 wr => ∃ (s : Flw) (okA : Nat -> Prop),v13 = .int .i64 (leastI s.2.2) /\ v14 = .bool (!s.2.2.isEmpty) /\ Hid (inferP T m.ret m.code m.hs k s = some (Rl,Ra,Re)) /\ Hid (FlI w2 okA wr gw fb wb tb m pp pc ph np cp nc cc nh ch (s.1,s.2.1,S.delS s.2.2 (leastI s.2.2))))
    case atStart => exact ⟨s0,okV,rfl,rfl,HR3,HI5⟩
    case round =>
     clear HR3 HI5
     obtain ⟨⟨F,E,N⟩,okA,rfl,rfl,HQ,HI⟩ := hrel
     dsimp only at HI ⊢
     cases gk with
     | zero => have h9 := HQ.out; unfold inferP at h9; cases h9
     | succ n =>
      have h9 := HQ.out
      unfold inferP at h9
      dsimp only at h9
      have HQ1 := hid h9
      clear h9 HQ
      cases N with
      | nil =>
       obtain ⟨rfl,rfl,rfl⟩ : Rl = F /\ Ra = 0 /\ Re = 0 := by have h9 := HQ1.out; rw [if_pos rfl] at h9; have h9 := Option.some.inj h9; simp only [Prod.mk.injEq] at h9; exact ⟨h9.1.symm,h9.2.1.symm,h9.2.2.symm⟩
       have hnl : Rl.length = nc := HI.out.2.2.2.2.1
       obtain ⟨wl,⟨c0,c10,c11⟩,-⟩ := HI.out.cells
       dsimp only [List.isEmpty_nil,Bool.not_true]
       go_wp2_with fail
       refine bodyPost_ret (v := .tuple #[.slice (some ⟨fb,0,none⟩) nc nc,.int .i64 0,.int .i64 0]) (by simp [*,results,Tryz.results13,go_sem]) rfl ?_
       exact ⟨some ⟨fb,0,none⟩,nc,rfl,by (have h9 := fl_frames HI.out; dsimp only at h9; rw [hnl] at h9; exact h9.step frP.grow (fun b hb _ => Nat.le_trans HB.out.size hb) (fun _ _ _ => rfl) (Nat.le_refl _)),HB.out.trans (HI.out.2.2.2.2.2.2.2.2.mono HB.out.size)⟩
      | cons y l =>
       obtain ⟨A,hA⟩ : ∃ z,leastI (y :: l) = z := ⟨_,rfl⟩
       rw [hA] at HI ⊢
       have HQ2 := HQ1.out
       rw [if_neg (by simp),hA] at HQ2
       by_cases hlen : 5000 < (y :: l).length
       ·rw [if_pos hlen] at HQ2; cases HQ2
       rw [if_neg hlen] at HQ2
       by_cases hpl : 0 <= A /\ A < (F.length : Int)
       ·rw [if_neg (by simpa using hpl)] at HQ2
        obtain ⟨p,rfl⟩ : ∃ p : Nat,A = (p : Int) := ⟨A.toNat,by omega⟩
        rw [show ((p : Int)).toNat = p by omega] at HQ2
        have HPL : Hid (p < nc) := hid (by have h9 : F.length = nc := HI.out.2.2.2.2.1; omega)
        obtain ⟨q,hq⟩ : ∃ z,upP T m.ret m.code m.hs (F,E,S.delS (y :: l) (p : Int)) p = z := ⟨_,rfl⟩
        rw [hq] at HQ2
        cases q with
        | none => cases HQ2
        | some r =>
         dsimp only at HQ2
         have HQ3 := hid HQ2
         have HUQ := hid hq
         clear HQ2 hq hA hlen hpl HQ1
         dsimp only [List.isEmpty_cons,Bool.not_false]
         go_wp2_with fail
         refine (takeUp_w ok w2 okA gw fb wb tb K m pp pc ph np cp nc cc nh ch _ p r wr HT.out HFW.out HC.out HH.out ⟨HSZ.out.2.1,HSZ.out.2.2.2.2.1,HSZ.out.2.2.2.2.2.1,HSZ.out.2.2.2.2.2.2.1,HSZ.out.2.2.2.2.2.2.2.1⟩ HOK.out HI.out HPL.out (by rw [HTT.out]; exact HUQ.out)).mono ?_
         rintro e w6 ⟨rfl,okB,hi6⟩
         have HI6 := hid hi6
         clear hi6 HI HUQ
         by_cases h0 : r.2 = 0
         ·have hr0 : (r.2 != 0) = false := by simpa using h0
          have HQ4 : Hid (inferP T m.ret m.code m.hs n r.1 = some (Rl,Ra,Re)) := hid (by have h9 := HQ3.out; rw [if_neg (by simpa using h0)] at h9; exact h9)
          have HLN : Hid (r.1.2.2.length <= 10000) := hid (infer_len HQ4.out)
          clear HQ3
          go_upto_region 13 with fail
          obtain ⟨wl,⟨c0,c10,c11⟩,-⟩ := HI6.out.cells
          go_wp2_with fail
          clear wl c0 c10 c11
          refine (take_w HI6.out HLN.out).mono ?_
          rintro e w7 ⟨rfl,hi7⟩
          have HI7 := hid hi7
          clear hi7
          go_wp2_with fail
          go_roundg n
          case measure => omega
          case rel => exact ⟨r.1,okB,rfl,rfl,HQ4,HI7⟩
         ·have hr0 : (r.2 != 0) = true := by simpa using h0
          have h9 := HQ3.out
          rw [if_pos h0] at h9
          obtain ⟨rfl,rfl,rfl⟩ : Rl = [] /\ Ra = (p : Int) /\ Re = r.2 := by have h9 := Option.some.inj h9; simp only [Prod.mk.injEq] at h9; exact ⟨h9.1.symm,h9.2.1.symm,h9.2.2.symm⟩
          go_wp2_with fail
          refine bodyPost_ret (v := .tuple #[.slice none 0 0,.int .i64 (p : Int),.int .i64 r.2]) (by simp [*,results,Tryz.results13,go_sem]) rfl ?_
          exact ⟨none,0,rfl,RdX.nil _ _ _ _,HB.out.trans (HI6.out.2.2.2.2.2.2.2.2.mono HB.out.size)⟩
       ·rw [if_pos (by simpa using hpl)] at HQ2
        cases HQ2
  ·have h9 := HR1.out
   rw [HY.out,if_pos hbd] at h9
   have hx : (Y != 0) = true := by simpa using hbd
   obtain ⟨rfl,rfl,rfl⟩ : Rl = [] /\ Ra = -1 /\ Re = Y := by have h9 := Option.some.inj h9; simp only [Prod.mk.injEq] at h9; exact ⟨h9.1.symm,h9.2.1.symm,h9.2.2.symm⟩
   go_wp2_with fail
   refine bodyPost_ret (v := .tuple #[.slice none 0 0,.int .i64 (-1),.int .i64 Re]) (by simp [*,results,Tryz.results13,go_sem]) rfl ?_
   exact ⟨none,0,rfl,RdX.nil _ _ _ _,HB.out⟩
end Go.Proofs.YtfpeakkbbfnhcaaGreat.R
