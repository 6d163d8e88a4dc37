/- Texts that the proof is made of, joined. No condition. -/
import Derived.Test.YtfpeakkbbfnhcaaGreatC1322
import Derived.Test.YtfpeakkbbfnhcaaGreatC1319
import Derived.Deep.DeepCutAuto
import Derived.Deep.CutBlock
import Derived.Test.YtfpeakkbbfnhcaaGreatC13H
set_option linter.unusedVariables false
set_option linter.unusedSimpArgs false
set_option maxRecDepth 100000
set_option maxHeartbeats 16000000
namespace Go.Proofs.YtfpeakkbbfnhcaaGreat.R
open Go.RowKit Go.Proofs.YtfpeakkbbfnhcaaGreat.D Go.Proofs.YtfpeakkbbfnhcaaGreat.O Go.Proofs.YtfpeakkbbfnhcaaGreat.A
def upL (Lb : List Ins) (o : Int) (i : Nat) : List Ins := Lb ++ List.replicate i (insO o)
theorem upL_next (Lb : List Ins) (o : Int) (i : Nat) : upL Lb o i ++ [insO o] = upL Lb o (i + 1) := by unfold upL; rw [List.append_assoc,List.replicate_succ']
theorem upL_len (Lb : List Ins) (o : Int) (i : Nat) : (upL Lb o i).length = Lb.length + i := by unfold upL; simp
theorem upL_zero (Lb : List Ins) (o : Int) : upL Lb o 0 = Lb := by unfold upL; simp
theorem ins_lit (o k : Int) (w : World) : RdX 7 (sP insC) anyB (w.alloc (.cells #[.int .i64 o,.int .i32 0,.int .i64 k,.string ⟨#[]⟩,.string ⟨#[]⟩,.string ⟨#[]⟩,.string ⟨#[]⟩] 59)) (.slice (some ⟨w.heap.size,0,none⟩) 1 1) [insK o k] := rdX_lit1 (sz := 7) (c := insC) (fun _ => rfl) w (insK o k) _ _ rfl
theorem up_own {w w' : World} {B gm : Nat} {p : Option Addr} {n c : Nat} {L : List Ins} (h : OwnX 7 59 (sP insC) w B (.slice p n c) L) (k : Kpt [gm] w w') (hg : gm < B) : OwnX 7 59 (sP insC) w' B (.slice p n c) L := h.kptS k (fun b e => by have := (h.lt b e).1; simp; omega)
theorem own_ne {w : World} {B : Nat} {p : Option Addr} {n c : Nat} {L : List Ins} (h : OwnX 7 59 (sP insC) w B (.slice p n c) L) : ∀ b,(Value.slice p n c).ownBlock = some b -> B <= b := fun b e => (h.lt b e).1
theorem code_eq (n p q : Nat) : upL (upL (upL [] 1 n) 1 p) 6 q ++ [insK 1 0,insK 20 (n : Int),insK 40 0] = codeLp n p q := by unfold upL codeLp; rfl
theorem code_sz (n p q : Nat) : ∀ x ∈ codeLp n p q,x.2.2.2.2.1.size <= 1000 := by
 intro x hx
 have key : ∀ x ∈ codeLp n p q,x.2.2.2.2.1 = ⟨#[]⟩ := by
  intro x hx
  unfold codeLp at hx
  simp only [List.mem_append,List.mem_replicate,List.mem_cons,List.not_mem_nil,or_false] at hx
  rcases hx with ((⟨-,rfl⟩ | ⟨-,rfl⟩) | ⟨-,rfl⟩) | rfl | rfl | rfl <;> rfl
 rw [key x hx]
 exact Nat.zero_le _
theorem loop_fact (n p q : Nat) (hn : n < 3) (hp : p < 6) (hq : q < 6) : ∃ R,inferW [] ⟨#[65]⟩ (mLoop n p q) = some R /\ okCode (codeLp n p q) = true /\ (q > p + n -> R.2.2 = 30 /\ R.2.1 = ((n + p + (p + n) : Nat) : Int)) /\ (¬ q > p + n -> ¬ p = q -> R.2.2 = 30 /\ R.2.1 = ((n + p + q + 1 : Nat) : Int)) /\ (¬ q > p + n -> p = q -> R.2.2 = 0 /\ R.1.length = n + p + q + 3 /\ ∃ f,R.1[n + p + q + 2]? = some f /\ f.1 = true /\ f.2.2.length = n) := by
 obtain ⟨h1,h2,h3⟩ := loopW_tab ⟨n,hn⟩ ⟨p,hp⟩ ⟨q,hq⟩
 dsimp only at h1 h2 h3
 obtain ⟨R,hR⟩ := Option.isSome_iff_exists.1 h1
 have hb := loop_tab ⟨n,hn⟩ ⟨p,hp⟩ ⟨q,hq⟩
 dsimp only at hb
 unfold loopB at hb
 rw [h3 R hR] at hb
 have hl : (codeLp n p q).length = n + p + q + 3 := by unfold codeLp; simp; omega
 obtain ⟨l,a,e⟩ := R
 dsimp only at hb ⊢
 refine ⟨_,hR,h2,fun hc => ?_,fun hc hn => ?_,fun hc hpq => ?_⟩
 ·rw [if_pos hc] at hb
  simpa using hb
 ·rw [if_neg hc,if_pos hn,hl] at hb
  simp at hb
  have h9 := hb.2
  exact ⟨hb.1,by show a = _; omega⟩
 ·rw [if_neg hc,if_neg (by simpa using hpq),hl] at hb
  simp only [Bool.and_eq_true,beq_iff_eq] at hb
  obtain ⟨⟨⟨b1,b2⟩,b3⟩,b4⟩ := hb
  refine ⟨b1,b2,l.getD (n + p + q + 2) noFr,?_,?_,?_⟩
  ·show l[n + p + q + 2]? = _
   have b5 : l.length = n + p + q + 3 := b2
   rw [List.getD_eq_getElem?_getD,List.getElem?_eq_getElem (by omega)]
   rfl
  ·rw [b2] at b3
   exact b3
  ·rw [b2] at b4
   exact b4
theorem loops_l (x y z : Nat) (w : World) (hx : x < 256) (hy : y < 256) (hz : z < 256) :
  Calls Tryz.prog 4 #[.int .u8 (x : Int),.int .u8 (y : Int),.int .u8 (z : Int)] w fun e w' => e = .returned (.bool true) /\ Below w.heap.size w w' := by
 obtain ⟨p,hp⟩ : ∃ k,x % 6 = k := ⟨_,rfl⟩
 have hp1 : (x : Int) % 6 = (p : Int) := by omega
 have hp2 : (x : Int).tmod 6 = (p : Int) := by rw [Int.tmod_eq_emod_of_nonneg (by omega)]; omega
 obtain ⟨q,hq⟩ : ∃ k,y % 6 = k := ⟨_,rfl⟩
 have hq1 : (y : Int) % 6 = (q : Int) := by omega
 have hq2 : (y : Int).tmod 6 = (q : Int) := by rw [Int.tmod_eq_emod_of_nonneg (by omega)]; omega
 obtain ⟨n,hn⟩ : ∃ k,z % 3 = k := ⟨_,rfl⟩
 have hn1 : (z : Int) % 3 = (n : Int) := by omega
 have hn2 : (z : Int).tmod 3 = (n : Int) := by rw [Int.tmod_eq_emod_of_nonneg (by omega)]; omega
 have HSM : Hid (n < 3 /\ p < 6 /\ q < 6) := hid (by omega)
 clear hp hq hn hx hy hz
 go_enter Tryz.func4,Tryz.ntmps4
 try simp only [List.append_eq,List.cons_append,List.nil_append]
 go_wp2_with fail
 refine (known_13 w).mono ?_
 rintro e w1 ⟨rfl,hb1⟩
 have HB1 := hid hb1
 clear hb1
 go_wp2_with fail
 refine (New_t [] none 0 anyB w1 (RdX.nil _ _ _ _) ⟨by decide,fun c hc => by cases hc⟩ (fun c hc => by cases hc)).mono ?_
 rintro e w2 ⟨tb,mb,vs,rfl,ht,hb2⟩
 have HT := hid ht
 have HB := hid (HB1.out.trans (hb2.mono HB1.out.size))
 have HW2 := hid HB.out.size
 clear ht hb2 HB1
 go_upto_region 6 with fail
 have hbn := below_alR w2 (.cells #[.string ⟨#[]⟩,.slice none 0 0,.int .i64 5,.string ⟨#[]⟩,.bool true,.bool false,.int .i64 0,.slice none 0 0,.slice none 0 0] 49)
 have HF : Hid _ := hid (heap_alloc_new w2 (.cells #[.string ⟨#[]⟩,.slice none 0 0,.int .i64 5,.string ⟨#[]⟩,.bool true,.bool false,.int .i64 0,.slice none 0 0,.slice none 0 0] 49))
 obtain ⟨w5,hw5⟩ : ∃ z,z = w2.alloc (.cells #[.string ⟨#[]⟩,.slice none 0 0,.int .i64 5,.string ⟨#[]⟩,.bool true,.bool false,.int .i64 0,.slice none 0 0,.slice none 0 0] 49) := ⟨_,rfl⟩
 replace HT := hid (HT.out.old hbn)
 replace HB := hid (HB.out.trans (hbn.mono HB.out.size))
 have HGS : Hid (w2.heap.size + 1 = w5.heap.size) := hid (by rw [hw5]; simp)
 rw [<- hw5] at HF HT HB ⊢
 obtain ⟨gm,hgm⟩ : ∃ z,w2.heap.size = z := ⟨_,rfl⟩
 rw [hgm] at HF HT HGS ⊢
 obtain ⟨B,hB⟩ : ∃ z,w5.heap.size = z := ⟨_,rfl⟩
 have HBE := hid hB
 have HGB : Hid (gm < B) := hid (by have := HGS.out; omega)
 have HWG : Hid (w.heap.size <= gm) := hid (by rw [<- hgm]; exact HW2.out)
 clear hbn hw5 hgm hB HGS HW2
 have HOW : Hid (OwnX 7 59 (sP insC) w5 B (.slice none 0 0) (upL [] 1 0)) := hid (by rw [upL_zero]; exact OwnX.nil _ _ _ _ _)
 have HKP : Hid (Kpt [gm] w5 w5) := hid (Kpt.refl _ _)
 go_wp2_with fail
 go_loopw [11] (fun v wr => ∃ (i : Nat) (pa : Option Addr) (ca : Nat),v = .int .i64 (i : Int) /\ i <= n /\ Hid (wr.heap[gm]? = some (.cells #[.string ⟨#[]⟩,.slice none 0 0,.int .i64 5,.string ⟨#[]⟩,.bool true,.bool false,.int .i64 0,.slice pa i ca,.slice none 0 0] 49 (0,0))) /\ Hid (OwnX 7 59 (sP insC) wr B (.slice pa i ca) (upL [] 1 i)) /\ Hid (Kpt [gm] w5 wr)) (fun x _ => n - (intOf x).toNat)
 case atStart => exact ⟨0,none,0,rfl,by omega,HF,HOW,HKP⟩
 case round =>
  clear HF HOW HKP
  obtain ⟨i,pa,ca,rfl,hin,HF,HOW,HKP⟩ := hrel
  by_cases hlt : i < n
  ·have hlt' : (i : Int) < (n : Int) := by omega
   obtain ⟨ul,uc,uf⟩ := boxN HF.out
   have u0 := uc 0 _ rfl
   have u1 := uc 1 _ rfl
   have u2 := uc 2 _ rfl
   have u3 := uc 3 _ rfl
   have u4 := uc 4 _ rfl
   have u5 := uc 5 _ rfl
   have u6 := uc 6 _ rfl
   have u7 := uc 7 _ rfl
   have u8 := uc 8 _ rfl
   simp only [Nat.zero_add] at u0 u1 u2 u3 u4 u5 u6 u7 u8
   clear uc uf
   have hbT := below_alR wr (.cells #[.int .i64 1,.int .i32 0,.int .i64 0,.string ⟨#[]⟩,.string ⟨#[]⟩,.string ⟨#[]⟩,.string ⟨#[]⟩] 59)
   have HSRC := hid (ins_lit 1 0 wr)
   replace HOW := hid (HOW.out.kptS (.of_below hbT : Kpt [] _ _) (fun _ _ => by simp))
   replace HF := hid (blk_b HF.out hbT)
   replace HKP := hid (HKP.out.trans (.of_below hbT : Kpt [gm] _ _) (fun _ h => .inl h))
   clear hbT
   go_wp2_with (at_builtin; refine wp_appM inf_ins shape_ins rfl _ _ rfl B _ (upL [] 1 i) rfl HOW.out wr.heap.size 0 1 1 [insO 1] rfl HSRC.out (by have := HSM.out; rw [upL_len]; simp [upL_len]; omega) (by have := HKP.out.size; have := HBE.out; omega) ?_)
   intro v6 w6 ho6 hg6 hl6
   obtain ⟨p6,n6,c6,rfl⟩ := ho6.slice
   rw [upL_next] at ho6
   obtain ⟨_,_,e6,-⟩ := (ho6.rd (sP.grow _)).len
   simp only [Value.slice.injEq,upL_len,List.length_nil,Nat.zero_add] at e6
   obtain ⟨rfl,rfl,rfl⟩ := e6
   have hol := own_ne HOW.out
   have hkk := Kpt.of_grown (S := ((Value.slice pa i ca).ownBlock).toList) hg6 (fun b e => .inl (by rw [e]; simp))
   have hmm : ∀ b,b ∈ ((Value.slice pa i ca).ownBlock).toList -> B <= b := fun b hb => hol b (by simpa using hb)
   replace HF := hid (blk_kl HF.out hkk (fun hb => by have := hmm _ hb; have := HGB.out; omega))
   replace HKP := hid (HKP.out.trans hkk (fun b hb => .inr (by have := hmm b hb; have := HBE.out; omega)))
   have HO6 := hid ho6
   clear hol hkk hmm ho6 hg6 hl6 HSRC HOW
   clear ul u0 u1 u2 u3 u4 u5 u6 u7 u8
   obtain ⟨ul,uc,uf⟩ := boxN HF.out
   have u0 := uc 0 _ rfl
   have u1 := uc 1 _ rfl
   have u2 := uc 2 _ rfl
   have u3 := uc 3 _ rfl
   have u4 := uc 4 _ rfl
   have u5 := uc 5 _ rfl
   have u6 := uc 6 _ rfl
   have u7 := uc 7 _ rfl
   have u8 := uc 8 _ rfl
   have uu0 := uf 0
   have uu1 := uf 1
   have uu2 := uf 2
   have uu3 := uf 3
   have uu4 := uf 4
   have uu5 := uf 5
   have uu6 := uf 6
   have uu7 := uf 7
   have uu8 := uf 8
   simp only [Nat.zero_add] at u0 u1 u2 u3 u4 u5 u6 u7 u8
   clear uc uf
   go_wp2_with fail
   go_roundw
   case rel =>
    have kS : Kpt [gm] w6 (w6.setCell ⟨gm,7,none⟩ (.slice p6 (i + 1) c6)) := Kpt.set _ _ _ _ _ (by simp)
    exact ⟨i + 1,p6,c6,by go_num,by omega,hid (by rw [heap_setCell_same _ _ 7 _ _ _ HF.out]; rfl),hid (up_own HO6.out kS HGB.out),hid (HKP.out.trans kS (fun _ h => .inl h))⟩
   case measure => simp [intOf]; omega
  ·obtain rfl : i = n := by omega
   have hlt' : ¬ (i : Int) < (i : Int) := by omega
   obtain ⟨ul,uc,uf⟩ := boxN HF.out
   have u0 := uc 0 _ rfl
   have u1 := uc 1 _ rfl
   have u2 := uc 2 _ rfl
   have u3 := uc 3 _ rfl
   have u4 := uc 4 _ rfl
   have u5 := uc 5 _ rfl
   have u6 := uc 6 _ rfl
   have u7 := uc 7 _ rfl
   have u8 := uc 8 _ rfl
   simp only [Nat.zero_add] at u0 u1 u2 u3 u4 u5 u6 u7 u8
   clear uc uf
   go_upto_region 11 with fail
   clear ul u0 u1 u2 u3 u4 u5 u6 u7 u8
   have HOW2 := HOW
   replace HOW : Hid (OwnX 7 59 (sP insC) wr B (.slice pa (i + 0) ca) (upL (upL [] 1 i) 1 0)) := hid (by rw [upL_zero]; exact HOW2.out)
   clear HOW2
   obtain ⟨n,hni⟩ : ∃ z,z = i := ⟨_,rfl⟩
   subst hni
   go_wp2_with fail
   go_loopw [13] (fun v wr => ∃ (i : Nat) (pa : Option Addr) (ca : Nat),v = .int .i64 (i : Int) /\ i <= p /\ Hid (wr.heap[gm]? = some (.cells #[.string ⟨#[]⟩,.slice none 0 0,.int .i64 5,.string ⟨#[]⟩,.bool true,.bool false,.int .i64 0,.slice pa (n + i) ca,.slice none 0 0] 49 (0,0))) /\ Hid (OwnX 7 59 (sP insC) wr B (.slice pa (n + i) ca) (upL (upL [] 1 n) 1 i)) /\ Hid (Kpt [gm] w5 wr)) (fun x _ => p - (intOf x).toNat)
   case atStart => exact ⟨0,pa,ca,rfl,by omega,HF,HOW,HKP⟩
   case round =>
    clear HF HOW HKP
    obtain ⟨i,pa,ca,rfl,hin,HF,HOW,HKP⟩ := hrel
    by_cases hlt : i < p
    ·have hlt' : (i : Int) < (p : Int) := by omega
     obtain ⟨ul,uc,uf⟩ := boxN HF.out
     have u0 := uc 0 _ rfl
     have u1 := uc 1 _ rfl
     have u2 := uc 2 _ rfl
     have u3 := uc 3 _ rfl
     have u4 := uc 4 _ rfl
     have u5 := uc 5 _ rfl
     have u6 := uc 6 _ rfl
     have u7 := uc 7 _ rfl
     have u8 := uc 8 _ rfl
     simp only [Nat.zero_add] at u0 u1 u2 u3 u4 u5 u6 u7 u8
     clear uc uf
     have hbT := below_alR wr (.cells #[.int .i64 1,.int .i32 0,.int .i64 0,.string ⟨#[]⟩,.string ⟨#[]⟩,.string ⟨#[]⟩,.string ⟨#[]⟩] 59)
     have HSRC := hid (ins_lit 1 0 wr)
     replace HOW := hid (HOW.out.kptS (.of_below hbT : Kpt [] _ _) (fun _ _ => by simp))
     replace HF := hid (blk_b HF.out hbT)
     replace HKP := hid (HKP.out.trans (.of_below hbT : Kpt [gm] _ _) (fun _ h => .inl h))
     clear hbT
     go_wp2_with (at_builtin; refine wp_appM inf_ins shape_ins rfl _ _ rfl B _ (upL (upL [] 1 n) 1 i) rfl HOW.out wr.heap.size 0 1 1 [insO 1] rfl HSRC.out (by have := HSM.out; rw [upL_len]; simp [upL_len]; omega) (by have := HKP.out.size; have := HBE.out; omega) ?_)
     intro v6 w6 ho6 hg6 hl6
     obtain ⟨p6,n6,c6,rfl⟩ := ho6.slice
     rw [upL_next] at ho6
     obtain ⟨_,_,e6,-⟩ := (ho6.rd (sP.grow _)).len
     simp only [Value.slice.injEq,upL_len,List.length_nil,Nat.zero_add] at e6
     obtain ⟨rfl,rfl,rfl⟩ := e6
     have hol := own_ne HOW.out
     have hkk := Kpt.of_grown (S := ((Value.slice pa (n + i) ca).ownBlock).toList) hg6 (fun b e => .inl (by rw [e]; simp))
     have hmm : ∀ b,b ∈ ((Value.slice pa (n + i) ca).ownBlock).toList -> B <= b := fun b hb => hol b (by simpa using hb)
     replace HF := hid (blk_kl HF.out hkk (fun hb => by have := hmm _ hb; have := HGB.out; omega))
     replace HKP := hid (HKP.out.trans hkk (fun b hb => .inr (by have := hmm b hb; have := HBE.out; omega)))
     have HO6 := hid ho6
     clear hol hkk hmm ho6 hg6 hl6 HSRC HOW
     clear ul u0 u1 u2 u3 u4 u5 u6 u7 u8
     obtain ⟨ul,uc,uf⟩ := boxN HF.out
     have u0 := uc 0 _ rfl
     have u1 := uc 1 _ rfl
     have u2 := uc 2 _ rfl
     have u3 := uc 3 _ rfl
     have u4 := uc 4 _ rfl
     have u5 := uc 5 _ rfl
     have u6 := uc 6 _ rfl
     have u7 := uc 7 _ rfl
     have u8 := uc 8 _ rfl
     have uu0 := uf 0
     have uu1 := uf 1
     have uu2 := uf 2
     have uu3 := uf 3
     have uu4 := uf 4
     have uu5 := uf 5
     have uu6 := uf 6
     have uu7 := uf 7
     have uu8 := uf 8
     simp only [Nat.zero_add] at u0 u1 u2 u3 u4 u5 u6 u7 u8
     clear uc uf
     go_wp2_with fail
     go_roundw
     case rel =>
      have kS : Kpt [gm] w6 (w6.setCell ⟨gm,7,none⟩ (.slice p6 (n + (i + 1)) c6)) := Kpt.set _ _ _ _ _ (by simp)
      exact ⟨i + 1,p6,c6,by go_num,by omega,hid (by rw [heap_setCell_same _ _ 7 _ _ _ HF.out]; rfl),hid (up_own HO6.out kS HGB.out),hid (HKP.out.trans kS (fun _ h => .inl h))⟩
     case measure => simp [intOf]; omega
    ·obtain rfl : i = p := by omega
     have hlt' : ¬ (i : Int) < (i : Int) := by omega
     have HOW2 := HOW
     replace HOW : Hid (OwnX 7 59 (sP insC) wr B (.slice pa (n + i + 0) ca) (upL (upL (upL [] 1 n) 1 i) 6 0)) := hid (by rw [upL_zero]; exact HOW2.out)
     clear HOW2
     obtain ⟨p,hpi⟩ : ∃ z,z = i := ⟨_,rfl⟩
     subst hpi
     go_wp2_with fail
     go_loopw [14] (fun v wr => ∃ (i : Nat) (pa : Option Addr) (ca : Nat),v = .int .i64 (i : Int) /\ i <= q /\ Hid (wr.heap[gm]? = some (.cells #[.string ⟨#[]⟩,.slice none 0 0,.int .i64 5,.string ⟨#[]⟩,.bool true,.bool false,.int .i64 0,.slice pa (n + p + i) ca,.slice none 0 0] 49 (0,0))) /\ Hid (OwnX 7 59 (sP insC) wr B (.slice pa (n + p + i) ca) (upL (upL (upL [] 1 n) 1 p) 6 i)) /\ Hid (Kpt [gm] w5 wr)) (fun x _ => q - (intOf x).toNat)
     case atStart => exact ⟨0,pa,ca,rfl,by omega,HF,HOW,HKP⟩
     case round =>
      clear HF HOW HKP
      obtain ⟨i,pa,ca,rfl,hin,HF,HOW,HKP⟩ := hrel
      by_cases hlt : i < q
      ·have hlt' : (i : Int) < (q : Int) := by omega
       obtain ⟨ul,uc,uf⟩ := boxN HF.out
       have u0 := uc 0 _ rfl
       have u1 := uc 1 _ rfl
       have u2 := uc 2 _ rfl
       have u3 := uc 3 _ rfl
       have u4 := uc 4 _ rfl
       have u5 := uc 5 _ rfl
       have u6 := uc 6 _ rfl
       have u7 := uc 7 _ rfl
       have u8 := uc 8 _ rfl
       simp only [Nat.zero_add] at u0 u1 u2 u3 u4 u5 u6 u7 u8
       clear uc uf
       have hbT := below_alR wr (.cells #[.int .i64 6,.int .i32 0,.int .i64 0,.string ⟨#[]⟩,.string ⟨#[]⟩,.string ⟨#[]⟩,.string ⟨#[]⟩] 59)
       have HSRC := hid (ins_lit 6 0 wr)
       replace HOW := hid (HOW.out.kptS (.of_below hbT : Kpt [] _ _) (fun _ _ => by simp))
       replace HF := hid (blk_b HF.out hbT)
       replace HKP := hid (HKP.out.trans (.of_below hbT : Kpt [gm] _ _) (fun _ h => .inl h))
       clear hbT
       go_wp2_with (at_builtin; refine wp_appM inf_ins shape_ins rfl _ _ rfl B _ (upL (upL (upL [] 1 n) 1 p) 6 i) rfl HOW.out wr.heap.size 0 1 1 [insO 6] rfl HSRC.out (by have := HSM.out; rw [upL_len]; simp [upL_len]; omega) (by have := HKP.out.size; have := HBE.out; omega) ?_)
       intro v6 w6 ho6 hg6 hl6
       obtain ⟨p6,n6,c6,rfl⟩ := ho6.slice
       rw [upL_next] at ho6
       obtain ⟨_,_,e6,-⟩ := (ho6.rd (sP.grow _)).len
       simp only [Value.slice.injEq,upL_len,List.length_nil,Nat.zero_add] at e6
       obtain ⟨rfl,rfl,rfl⟩ := e6
       have hol := own_ne HOW.out
       have hkk := Kpt.of_grown (S := ((Value.slice pa (n + p + i) ca).ownBlock).toList) hg6 (fun b e => .inl (by rw [e]; simp))
       have hmm : ∀ b,b ∈ ((Value.slice pa (n + p + i) ca).ownBlock).toList -> B <= b := fun b hb => hol b (by simpa using hb)
       replace HF := hid (blk_kl HF.out hkk (fun hb => by have := hmm _ hb; have := HGB.out; omega))
       replace HKP := hid (HKP.out.trans hkk (fun b hb => .inr (by have := hmm b hb; have := HBE.out; omega)))
       have HO6 := hid ho6
       clear hol hkk hmm ho6 hg6 hl6 HSRC HOW
       clear ul u0 u1 u2 u3 u4 u5 u6 u7 u8
       obtain ⟨ul,uc,uf⟩ := boxN HF.out
       have u0 := uc 0 _ rfl
       have u1 := uc 1 _ rfl
       have u2 := uc 2 _ rfl
       have u3 := uc 3 _ rfl
       have u4 := uc 4 _ rfl
       have u5 := uc 5 _ rfl
       have u6 := uc 6 _ rfl
       have u7 := uc 7 _ rfl
       have u8 := uc 8 _ rfl
       have uu0 := uf 0
       have uu1 := uf 1
       have uu2 := uf 2
       have uu3 := uf 3
       have uu4 := uf 4
       have uu5 := uf 5
       have uu6 := uf 6
       have uu7 := uf 7
       have uu8 := uf 8
       simp only [Nat.zero_add] at u0 u1 u2 u3 u4 u5 u6 u7 u8
       clear uc uf
       go_wp2_with fail
       go_roundw
       case rel =>
        have kS : Kpt [gm] w6 (w6.setCell ⟨gm,7,none⟩ (.slice p6 (n + p + (i + 1)) c6)) := Kpt.set _ _ _ _ _ (by simp)
        exact ⟨i + 1,p6,c6,by go_num,by omega,hid (by rw [heap_setCell_same _ _ 7 _ _ _ HF.out]; rfl),hid (up_own HO6.out kS HGB.out),hid (HKP.out.trans kS (fun _ h => .inl h))⟩
       case measure => simp [intOf]; omega
      ·obtain rfl : i = q := by omega
       have hlt' : ¬ (i : Int) < (i : Int) := by omega
       obtain ⟨q,hqi⟩ : ∃ z,z = i := ⟨_,rfl⟩
       subst hqi
       obtain ⟨ul,uc,uf⟩ := boxN HF.out
       have u0 := uc 0 _ rfl
       have u1 := uc 1 _ rfl
       have u2 := uc 2 _ rfl
       have u3 := uc 3 _ rfl
       have u4 := uc 4 _ rfl
       have u5 := uc 5 _ rfl
       have u6 := uc 6 _ rfl
       have u7 := uc 7 _ rfl
       have u8 := uc 8 _ rfl
       simp only [Nat.zero_add] at u0 u1 u2 u3 u4 u5 u6 u7 u8
       clear uc uf
       have hbT := below_alR wr (.cells #[.int .i64 1,.int .i32 0,.int .i64 0,.string ⟨#[]⟩,.string ⟨#[]⟩,.string ⟨#[]⟩,.string ⟨#[]⟩,.int .i64 20,.int .i32 0,.int .i64 (n : Int),.string ⟨#[]⟩,.string ⟨#[]⟩,.string ⟨#[]⟩,.string ⟨#[]⟩,.int .i64 40,.int .i32 0,.int .i64 0,.string ⟨#[]⟩,.string ⟨#[]⟩,.string ⟨#[]⟩,.string ⟨#[]⟩] 59)
       have HSRC : Hid (RdX 7 (sP insC) anyB (wr.alloc (.cells #[.int .i64 1,.int .i32 0,.int .i64 0,.string ⟨#[]⟩,.string ⟨#[]⟩,.string ⟨#[]⟩,.string ⟨#[]⟩,.int .i64 20,.int .i32 0,.int .i64 (n : Int),.string ⟨#[]⟩,.string ⟨#[]⟩,.string ⟨#[]⟩,.string ⟨#[]⟩,.int .i64 40,.int .i32 0,.int .i64 0,.string ⟨#[]⟩,.string ⟨#[]⟩,.string ⟨#[]⟩,.string ⟨#[]⟩] 59)) (.slice (some ⟨wr.heap.size,0,none⟩) 3 3) [insK 1 0,insK 20 (n : Int),insK 40 0]) := hid ((OwnX.lits (sz := 7) (T := 59) (c := insC) (fun _ => rfl) wr [insK 1 0,insK 20 (n : Int),insK 40 0] #[.int .i64 1,.int .i32 0,.int .i64 0,.string ⟨#[]⟩,.string ⟨#[]⟩,.string ⟨#[]⟩,.string ⟨#[]⟩,.int .i64 20,.int .i32 0,.int .i64 (n : Int),.string ⟨#[]⟩,.string ⟨#[]⟩,.string ⟨#[]⟩,.string ⟨#[]⟩,.int .i64 40,.int .i32 0,.int .i64 0,.string ⟨#[]⟩,.string ⟨#[]⟩,.string ⟨#[]⟩,.string ⟨#[]⟩] rfl 3 rfl (by omega)).rd (sP.grow _) |>.step (sP.grow _) (fun _ _ _ => trivial) (fun _ _ _ => rfl) (Nat.le_refl _))
       replace HOW := hid (HOW.out.kptS (.of_below hbT : Kpt [] _ _) (fun _ _ => by simp))
       replace HF := hid (blk_b HF.out hbT)
       replace HKP := hid (HKP.out.trans (.of_below hbT : Kpt [gm] _ _) (fun _ h => .inl h))
       clear hbT
       go_wp2_with (at_builtin; refine wp_appM inf_ins shape_ins rfl _ _ rfl B _ (upL (upL (upL [] 1 n) 1 p) 6 q) rfl HOW.out wr.heap.size 0 3 3 [insK 1 0,insK 20 (n : Int),insK 40 0] rfl HSRC.out (by have := HSM.out; simp [upL_len]; omega) (by have := HKP.out.size; have := HBE.out; omega) ?_)
       intro v6 w6 ho6 hg6 hl6
       obtain ⟨p6,n6,c6,rfl⟩ := ho6.slice
       rw [code_eq] at ho6
       obtain ⟨CL,hCL⟩ : ∃ z,codeLp n p q = z := ⟨_,rfl⟩
       have HCL := hid hCL
       rw [hCL] at ho6
       have HLN : Hid (CL.length = n + p + q + 3) := hid (by rw [<- hCL]; unfold codeLp; simp; omega)
       clear hCL
       obtain ⟨_,_,e6,-⟩ := (ho6.rd (sP.grow _)).len
       rw [HLN.out] at e6
       simp only [Value.slice.injEq] at e6
       obtain ⟨rfl,rfl,rfl⟩ := e6
       have hol := own_ne HOW.out
       have hkk := Kpt.of_grown (S := ((Value.slice pa (n + p + q) ca).ownBlock).toList) hg6 (fun b e => .inl (by rw [e]; simp))
       have hmm : ∀ b,b ∈ ((Value.slice pa (n + p + q) ca).ownBlock).toList -> B <= b := fun b hb => hol b (by simpa using hb)
       replace HF := hid (blk_kl HF.out hkk (fun hb => by have := hmm _ hb; have := HGB.out; omega))
       replace HKP := hid (HKP.out.trans hkk (fun b hb => .inr (by have := hmm b hb; have := HBE.out; omega)))
       have HO6 := hid ho6
       clear hol hkk hmm ho6 hg6 hl6 HSRC HOW
       clear ul u0 u1 u2 u3 u4 u5 u6 u7 u8
       obtain ⟨ul,uc,uf⟩ := boxN HF.out
       have u0 := uc 0 _ rfl
       have u1 := uc 1 _ rfl
       have u2 := uc 2 _ rfl
       have u3 := uc 3 _ rfl
       have u4 := uc 4 _ rfl
       have u5 := uc 5 _ rfl
       have u6 := uc 6 _ rfl
       have u7 := uc 7 _ rfl
       have u8 := uc 8 _ rfl
       have uu0 := uf 0
       have uu1 := uf 1
       have uu2 := uf 2
       have uu3 := uf 3
       have uu4 := uf 4
       have uu5 := uf 5
       have uu6 := uf 6
       have uu7 := uf 7
       have uu8 := uf 8
       simp only [Nat.zero_add] at u0 u1 u2 u3 u4 u5 u6 u7 u8
       clear uc uf
       go_upto_region 20 with fail
       obtain ⟨w7,hw7⟩ : ∃ z,z = w6.setCell ⟨gm,7,none⟩ (.slice p6 (n + p + q + 3) c6) := ⟨_,rfl⟩
       have kS : Kpt [gm] w6 w7 := by rw [hw7]; exact Kpt.set _ _ _ _ _ (by simp)
       have HF7 : Hid (w7.heap[gm]? = some (.cells #[.string ⟨#[]⟩,.slice none 0 0,.int .i64 5,.string ⟨#[]⟩,.bool true,.bool false,.int .i64 0,.slice p6 (n + p + q + 3) c6,.slice none 0 0] 49 (0,0))) := hid (by rw [hw7,heap_setCell_same _ _ 7 _ _ _ HF.out]; rfl)
       replace HO6 := hid (up_own HO6.out kS HGB.out)
       replace HKP := hid (HKP.out.trans kS (fun _ h => .inl h))
       rw [<- hw7]
       clear hw7 kS HF
       clear ul u0 u1 u2 u3 u4 u5 u6 u7 u8 uu0 uu1 uu2 uu3 uu4 uu5 uu6 uu7 uu8
       obtain ⟨⟨Rl,Ra,Re⟩,hR,hok,f1,f2,f3⟩ := loop_fact n p q HSM.out.1 HSM.out.2.1 HSM.out.2.2
       dsimp only at f1 f2 f3
       have HF1 := hid f1
       have HF2 := hid f2
       have HF3 := hid f3
       have HRR := hid hR
       have HOK := hid hok
       clear f1 f2 f3 hR hok
       have HCR : Hid (RdX 7 (sP insC) anyB w7 (.slice p6 (n + p + q + 3) c6) (codeLp n p q)) := hid (by rw [HCL.out]; exact (HO6.out.rd (sP.grow _)).step (sP.grow _) (fun _ _ _ => trivial) (fun _ _ _ => rfl) (Nat.le_refl _))
       replace HT := hid (TrW_ne (r := gm) HT.out (fun b hb => by omega) HKP.out)
       replace HB : Hid (Below w.heap.size w w7) := hid (HB.out.trans (HKP.out.below (fun x hx => by simp at hx; have := HWG.out; omega) HB.out.size))
       clear HO6 HKP
       obtain ⟨ul,uc,uf⟩ := boxN HF7.out
       have u0 := uc 0 _ rfl
       have u1 := uc 1 _ rfl
       have u2 := uc 2 _ rfl
       have u3 := uc 3 _ rfl
       have u4 := uc 4 _ rfl
       have u5 := uc 5 _ rfl
       have u6 := uc 6 _ rfl
       have u7 := uc 7 _ rfl
       have u8 := uc 8 _ rfl
       simp only [Nat.zero_add] at u0 u1 u2 u3 u4 u5 u6 u7 u8
       clear uc uf
       go_wp2_with fail
       clear ul u0 u1 u2 u3 u4 u5 u6 u7 u8
       refine (Infer_w _ tb [] ⟨#[65]⟩ (mLoop n p q) none p6 none 0 0 (n + p + q + 3) c6 0 0 (Rl,Ra,Re) w7 (.inl ⟨tb,mb,vs,rfl,HT.out⟩) (fun c hc => by cases hc) (RdX.nil _ _ _ _) HCR.out (RdX.nil _ _ _ _) (by have := HSM.out; have := HLN.out; rw [<- HCL.out] at this; refine ⟨by decide,Nat.zero_le _,fun t ht => (by cases ht),Nat.zero_le _,(by show (codeLp n p q).length <= 1000; omega),Nat.zero_le _,fun x hx => (by cases hx),fun x hx => ?_,(by show (0 : Int) <= 1000; decide)⟩; exact code_sz n p q x hx) HOK.out HRR.out).mono ?_
       rintro e w8 ⟨pr,cr,rfl,hrd,hbn⟩
       dsimp only at hrd ⊢
       have HRD := hid hrd
       replace HF7 := hid (blk_b HF7.out hbn)
       replace HB := hid (HB.out.trans (hbn.mono HB.out.size))
       clear hrd hbn HT HCR
       have hsm := HSM.out
       by_cases hc1 : q > p + n
       ·obtain ⟨rfl,rfl⟩ := HF1.out hc1
        have hc2 : (p : Int) + (n : Int) < (q : Int) := by omega
        clear HF1 HF2 HF3
        go_wp2_with fail
        go_ret
        exact ⟨rfl,HB.out⟩
       ·have hc2 : ¬ (p : Int) + (n : Int) < (q : Int) := by omega
        by_cases hpq : p = q
        ·subst hpq
         obtain ⟨rfl,hRl,f,hf,hf1,hf2⟩ := HF3.out hc1 rfl
         clear HF1 HF2 HF3
         obtain ⟨g1,gL,gS⟩ := f
         dsimp only at hf1 hf2
         subst hf1 hf2
         have hc2 : ¬ (p : Int) + (gS.length : Int) < (p : Int) := by omega
         obtain ⟨br,orr,rfl,-,-,-,hbr,hcr⟩ := HRD.out.place (fun e0 => by rw [e0] at hf; simp at hf)
         obtain ⟨vs6,⟨pl,cl,ps,cs,rfl,hl1,hl2⟩,hc6⟩ := hcr (gS.length + p + p + 2) _ hf
         have m0 := hc6 0 _ rfl
         have m2 := hc6 2 _ rfl
         dsimp only at m0 m2
         simp only [Nat.add_zero] at m0 m2
         clear hcr hc6 hl1 hl2
         obtain ⟨ul,uc,uf⟩ := boxN HF7.out
         have u0 := uc 0 _ rfl
         have u1 := uc 1 _ rfl
         have u2 := uc 2 _ rfl
         have u3 := uc 3 _ rfl
         have u4 := uc 4 _ rfl
         have u5 := uc 5 _ rfl
         have u6 := uc 6 _ rfl
         have u7 := uc 7 _ rfl
         have u8 := uc 8 _ rfl
         simp only [Nat.zero_add] at u0 u1 u2 u3 u4 u5 u6 u7 u8
         clear uc uf
         go_wp2_with fail
         go_ret
         exact ⟨rfl,HB.out⟩
        ·obtain ⟨rfl,rfl⟩ := HF2.out hc1 hpq
         have hpq2 : ((p : Int) != (q : Int)) = true := by simp; omega
         clear HF1 HF2 HF3
         obtain ⟨ul,uc,uf⟩ := boxN HF7.out
         have u0 := uc 0 _ rfl
         have u1 := uc 1 _ rfl
         have u2 := uc 2 _ rfl
         have u3 := uc 3 _ rfl
         have u4 := uc 4 _ rfl
         have u5 := uc 5 _ rfl
         have u6 := uc 6 _ rfl
         have u7 := uc 7 _ rfl
         have u8 := uc 8 _ rfl
         simp only [Nat.zero_add] at u0 u1 u2 u3 u4 u5 u6 u7 u8
         clear uc uf
         have hee : (((n : Int) + (p : Int) + (q : Int) + 1) == ((n : Int) + (p : Int) + (q : Int) + 3 - 2)) = true := by simp; omega
         go_wp2_with fail
         go_ret
         exact ⟨rfl,HB.out⟩
end Go.Proofs.YtfpeakkbbfnhcaaGreat.R
