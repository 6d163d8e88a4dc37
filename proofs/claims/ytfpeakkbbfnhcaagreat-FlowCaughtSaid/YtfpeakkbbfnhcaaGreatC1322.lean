/- Texts that the proof is made of, joined. No condition. -/
import Derived.Test.YtfpeakkbbfnhcaaGreatC1317
import Derived.Deep.DeepCutAuto
import Derived.Deep.CutBlock
import Derived.Test.YtfpeakkbbfnhcaaGreatC1321
import Derived.Test.YtfpeakkbbfnhcaaGreatC1319
import Derived.Test.YtfpeakkbbfnhcaaGreatC132
import Derived.Test.YtfpeakkbbfnhcaaGreatC13H
set_option linter.unusedVariables false
set_option linter.unusedSimpArgs false
set_option maxRecDepth 100000
set_option maxHeartbeats 16000000
namespace Go.Proofs.YtfpeakkbbfnhcaaGreat.R
open Go.RowKit Go.Proofs.YtfpeakkbbfnhcaaGreat.D Go.Proofs.YtfpeakkbbfnhcaaGreat.O Go.Proofs.YtfpeakkbbfnhcaaGreat.A
def eqI {α : Type} [DecidableEq α] (a b : List α) : Bool := decide (a = b)
theorem eqI_len {α : Type} [DecidableEq α] {a b : List α} (h : a.length ≠ b.length) : eqI a b = false := decide_eq_false (fun e => h (by rw [e]))
theorem eqI_at {α : Type} [DecidableEq α] {a b : List α} {i : Nat} {x y : α} (hx : a[i]? = some x) (hy : b[i]? = some y) (h : x ≠ y) : eqI a b = false := decide_eq_false (fun e => by
 rw [e,hy] at hx
 cases hx
 exact h rfl)
theorem eqI_all {α : Type} [DecidableEq α] {a b : List α} (hl : a.length = b.length) (h : ∀ i,i < a.length -> a[i]? = b[i]?) : eqI a b = true := decide_eq_true (by
 apply List.ext_getElem?
 intro i
 by_cases hi : i < a.length
 ·exact h i hi
 ·rw [List.getElem?_eq_none (by omega),List.getElem?_eq_none (by omega)])
theorem ints_h (v1 v2 : Value) (xs ys : List Int) (ok1 ok2 : Nat -> Prop) (w : World) (hr1 : RdX 1 (sP intC) ok1 w v1 xs) (hr2 : RdX 1 (sP intC) ok2 w v2 ys) (hl : xs.length <= 100000) (hl2 : ys.length <= 100000) :
  Calls Tryz.prog 20 #[v1,v2] w fun e w' => e = .returned (.bool (eqI xs ys)) /\ ∃ n,w' = w.drewN n := by
 obtain ⟨p,cap,rfl,h1⟩ := hr1.len
 obtain ⟨p2,cap2,rfl,h3⟩ := hr2.len
 have HR1 := hid hr1
 have HR2 := hid hr2
 clear hr1 hr2
 by_cases hle : xs.length = ys.length
 ·have hb : ((xs.length : Int) == (ys.length : Int)) = true := beq_iff_eq.2 (by omega)
  go_enter Tryz.func20,Tryz.ntmps20
  go_wp2_with fail
  have HLE := hid hle
  clear hle hb
  go_loopw [5] (fun v wr => ∃ i n : Nat,v = .int .i64 (i : Int) /\ i <= xs.length /\ Hid (∀ k,k < i -> xs[k]? = ys[k]?) /\ wr = w.drewN n) (fun v _ => xs.length - (intOf v).toNat)
  case atStart => exact ⟨0,0,rfl,by omega,hid (fun k hk => absurd hk (by omega)),rfl⟩
  case round =>
   obtain ⟨i,n,rfl,hi,HA,rfl⟩ := hrel
   by_cases hlt : i < xs.length
   ·have hlt' : (i : Int) < (xs.length : Int) := by omega
    have hlt2 : i < ys.length := by have := HLE.out; omega
    have hlt2' : (i : Int) < (ys.length : Int) := by omega
    have hne : xs ≠ [] := by rintro rfl; simp at hlt
    have hne2 : ys ≠ [] := by rintro rfl; simp at hlt2
    obtain ⟨b,off,rfl,-,-,hb,hbl,hc⟩ := HR1.out.place hne
    obtain ⟨b2,off2,rfl,-,-,hb2,hbl2,hc2⟩ := HR2.out.place hne2
    have hg := List.getElem?_eq_getElem hlt
    have hg2 := List.getElem?_eq_getElem hlt2
    have ci : w.cell? ⟨b,off + i,none⟩ = some (.int .i64 xs[i]) := by have h9 := sP_at (hc i _ hg); have h8 := h9 0 _ rfl; simpa using h8
    have ci2 : w.cell? ⟨b2,off2 + i,none⟩ = some (.int .i64 ys[i]) := by have h9 := sP_at (hc2 i _ hg2); have h8 := h9 0 _ rfl; simpa using h8
    obtain ⟨y,hy⟩ : ∃ y,xs[i] = y := ⟨_,rfl⟩
    obtain ⟨z,hz⟩ : ∃ z,ys[i] = z := ⟨_,rfl⟩
    rw [hy] at ci hg
    rw [hz] at ci2 hg2
    have HG := hid hg
    have HG2 := hid hg2
    clear hc hy hg hc2 hz hg2
    by_cases e : y = z
    ·subst e
     go_wp2_with fail
     go_quiet (fail)
     go_wp2_with fail
     go_roundw
     case rel => exact ⟨i + 1,_,by go_num,by omega,hid (fun k hk => by
      by_cases e2 : k = i
      ·subst e2
       rw [HG.out,HG2.out]
      ·exact HA.out k (by omega)),rfl⟩
     case measure => simp [intOf]; omega
    ·have hne2 : (y == z) = false := beq_eq_false_iff_ne.2 e
     go_wp2_with fail
     go_quiet (fail)
     go_wp2
     go_ret
     exact ⟨ret_bool (eqI_at HG.out HG2.out e).symm,_,World.drewN_drewN _ _ _⟩
   ·obtain rfl : i = xs.length := by omega
    clear hlt hi
    go_wp2
    go_ret
    exact ⟨ret_bool (eqI_all HLE.out HA.out).symm,_,rfl⟩
 ·have hb : ((xs.length : Int) == (ys.length : Int)) = false := beq_eq_false_iff_ne.2 (by omega)
  have hE := hid (eqI_len hle)
  clear hle
  go_enter Tryz.func20,Tryz.ntmps20
  go_wp2
  go_ret
  exact ⟨ret_bool hE.out.symm,0,rfl⟩
end Go.Proofs.YtfpeakkbbfnhcaaGreat.R
namespace Go.Proofs.YtfpeakkbbfnhcaaGreat.R
open Go.RowKit Go.Proofs.YtfpeakkbbfnhcaaGreat.D Go.Proofs.YtfpeakkbbfnhcaaGreat.O Go.Proofs.YtfpeakkbbfnhcaaGreat.A
theorem rd_box {α : Type} {sz : Nat} {c : α -> List Value} (hsz : ∀ x,(c x).length = sz) {w : World} {g : Nat} {cs : Array Value} {T : TypeId} (h : w.heap[g]? = some (.cells cs T (0,0))) (ys : List α) (e : cs.toList = ys.flatMap c) (n : Nat) (hn : n = ys.length) : RdX sz (sP c) anyB w (.slice (some ⟨g,0,none⟩) n n) ys := by
 subst hn
 refine ⟨_,_,rfl,Nat.le_refl _,fun h => (by cases h),?_⟩
 by_cases hy : ys = []
 ·exact .inl hy
 ·refine .inr ⟨g,0,rfl,trivial,(Array.getElem?_eq_some_iff.1 h).1,fun i x hx => ⟨c x,rfl,fun j u hj => ?_⟩⟩
  obtain ⟨-,hc,-⟩ := boxN h
  have key : ∀ (l : List α) (i : Nat),l[i]? = some x -> ((l.flatMap c).drop (i * sz)).take sz = c x := by
   intro l
   induction l with
   | nil => intro i h; simp at h
   | cons a l ih =>
    intro i hi
    rw [List.flatMap_cons]
    cases i with
    | zero =>
     simp only [List.getElem?_cons_zero,Option.some.injEq] at hi
     subst hi
     rw [Nat.zero_mul,List.drop_zero,List.take_left' (hsz a)]
    | succ i =>
     simp only [List.getElem?_cons_succ] at hi
     rw [Nat.succ_mul,Nat.add_comm (i * sz) sz,<- hsz a,<- List.drop_drop,List.drop_left,hsz a]
     exact ih i hi
  have hk := key ys i hx
  have hj2 : j < sz := by rw [<- hsz x]; exact (List.getElem?_eq_some_iff.1 hj).1
  have h2 := hc (i * sz + j) u (by
   rw [e,<- hj,<- hk,List.getElem?_take_of_lt hj2,List.getElem?_drop])
  rw [show 0 + i * sz + j = 0 + (i * sz + j) by omega]
  exact h2
def cK0 : List Ins := [insO 40,insO 6,insO 40]
def cK1 : List Ins := [insK 20 2,insO 6,insO 40]
def hK : List Hnd := [(0,1,2,⟨#[79,98,106,101,99,116]⟩)]
def mK (C : List Ins) (H : List Hnd) : Mth := ⟨⟨#[]⟩,[],(5,⟨#[]⟩),true,false,0,C,H⟩
theorem okc_k : okCode cK0 = true /\ okCode cK1 = true := by decide +kernel
theorem szc_k : (∀ x ∈ cK0,x.2.2.2.2.1.size <= 1000) /\ (∀ x ∈ cK1,x.2.2.2.2.1.size <= 1000) := by
 constructor <;> (intro x hx; simp only [cK0,cK1,List.mem_cons,List.not_mem_nil,or_false] at hx; rcases hx with rfl | rfl | rfl <;> exact Nat.zero_le _)
def kB (C : List Ins) (q : List Fr × Int × Int -> Bool) : Bool := match inferP [] (5,es) C [] 60 (beginP C (true,[],[])) with | none => false | some R => q R
theorem k0B : kB cK0 (fun R => R.2.2 == 0 && R.1.length == 3 && (R.1.getD 0 noFr).1 && !(R.1.getD 1 noFr).1) = true := by decide +kernel
theorem k1B : kB cK1 (fun R => R.2.2 == 30 && R.2.1 == 0) = true := by decide +kernel
theorem ab_k : (mthA (mK cK0 [])).2 = 0 /\ (mthA (mK cK1 [])).2 = 0 /\ (mthA (mK cK1 hK)).2 = 0 /\ badH [] hK = 29 := by decide +kernel
theorem inf_k (C : List Ins) (h : (mthA (mK C [])).2 = 0) : inferW [] ⟨#[65]⟩ (mK C []) = inferP [] (5,es) C [] 60 (beginP C (true,[],[])) := by
 unfold inferW
 rw [if_neg (by rintro (h9 | h9); (· cases h9); exact h9 h),if_neg (by simp [mK,badH])]
 rfl
theorem kn_0 : ∃ R,inferW [] ⟨#[65]⟩ (mK cK0 []) = some R /\ R.2.2 = 0 /\ R.1.length = 3 /\ ∃ f g,R.1[0]? = some f /\ R.1[1]? = some g /\ f.1 = true /\ g.1 = false := by
 rw [inf_k _ ab_k.1]
 have h := k0B
 unfold kB at h
 cases hi : inferP [] (5,es) cK0 [] 60 (beginP cK0 (true,[],[])) with
 | none => rw [hi] at h; cases h
 | some R =>
  rw [hi] at h
  simp only [Bool.and_eq_true,beq_iff_eq,Bool.not_eq_true'] at h
  obtain ⟨⟨⟨h1,h2⟩,h3⟩,h4⟩ := h
  exact ⟨R,rfl,h1,h2,_,_,by rw [List.getD_eq_getElem?_getD,List.getElem?_eq_getElem (by omega)]; rfl,by rw [List.getD_eq_getElem?_getD,List.getElem?_eq_getElem (by omega)]; rfl,h3,h4⟩
theorem kn_1 : ∃ R,inferW [] ⟨#[65]⟩ (mK cK1 []) = some R /\ R.2.2 = 30 /\ R.2.1 = 0 := by
 rw [inf_k _ ab_k.2.1]
 have h := k1B
 unfold kB at h
 cases hi : inferP [] (5,es) cK1 [] 60 (beginP cK1 (true,[],[])) with
 | none => rw [hi] at h; cases h
 | some R =>
  rw [hi] at h
  simp only [Bool.and_eq_true,beq_iff_eq] at h
  exact ⟨R,rfl,h.1,h.2⟩
theorem kn_2 : inferW [] ⟨#[65]⟩ (mK cK1 hK) = some ([],-1,29) := by
 unfold inferW
 rw [if_neg (by rintro (h9 | h9); (· cases h9); exact h9 ab_k.2.2.1),if_pos (by show ¬ badH [] hK = 0; rw [ab_k.2.2.2]; decide)]
 show some (([] : List Fr),(-1 : Int),badH [] hK) = _
 rw [ab_k.2.2.2]
theorem nx_k : nextW cK1 0 = [1,2] /\ hndsW cK1 hK 0 = [0] /\ hndsW cK1 hK 1 = [] := by decide +kernel
theorem known_13 (w : World) : Calls Tryz.prog 7 #[] w fun e w' => e = .returned (.bool true) /\ Below w.heap.size w w' := by
 go_enter Tryz.func7,Tryz.ntmps7
 try simp only [List.append_eq,List.cons_append,List.nil_append]
 go_wp2_with fail
 refine (New_t [] none 0 anyB w (RdX.nil _ _ _ _) ⟨by decide,fun c hc => by cases hc⟩ (fun c hc => by cases hc)).mono ?_
 rintro e_ w2 ⟨tb,mb,vs,rfl,ht,hb2⟩
 have HT := hid ht
 have HB := hid hb2
 clear ht hb2
 go_upto_region 3 with fail
 have hbm := jbl2 w2 (.cells #[.int .i64 40,.int .i32 0,.int .i64 0,.string ⟨#[]⟩,.string ⟨#[]⟩,.string ⟨#[]⟩,.string ⟨#[]⟩,.int .i64 6,.int .i32 0,.int .i64 0,.string ⟨#[]⟩,.string ⟨#[]⟩,.string ⟨#[]⟩,.string ⟨#[]⟩,.int .i64 40,.int .i32 0,.int .i64 0,.string ⟨#[]⟩,.string ⟨#[]⟩,.string ⟨#[]⟩,.string ⟨#[]⟩] 59) (.cells #[.string ⟨#[]⟩,.slice none 0 0,.int .i64 5,.string ⟨#[]⟩,.bool true,.bool false,.int .i64 0,.slice (some ⟨w2.heap.size,0,none⟩) 3 3,.slice none 0 0] 49)
 obtain ⟨w5,hw5⟩ : ∃ z,z = (w2.alloc (.cells #[.int .i64 40,.int .i32 0,.int .i64 0,.string ⟨#[]⟩,.string ⟨#[]⟩,.string ⟨#[]⟩,.string ⟨#[]⟩,.int .i64 6,.int .i32 0,.int .i64 0,.string ⟨#[]⟩,.string ⟨#[]⟩,.string ⟨#[]⟩,.string ⟨#[]⟩,.int .i64 40,.int .i32 0,.int .i64 0,.string ⟨#[]⟩,.string ⟨#[]⟩,.string ⟨#[]⟩,.string ⟨#[]⟩] 59)).alloc (.cells #[.string ⟨#[]⟩,.slice none 0 0,.int .i64 5,.string ⟨#[]⟩,.bool true,.bool false,.int .i64 0,.slice (some ⟨w2.heap.size,0,none⟩) 3 3,.slice none 0 0] 49) := ⟨_,rfl⟩
 have HF : Hid (w5.heap[w2.heap.size + 1]? = some (.cells #[.string ⟨#[]⟩,.slice none 0 0,.int .i64 5,.string ⟨#[]⟩,.bool true,.bool false,.int .i64 0,.slice (some ⟨w2.heap.size,0,none⟩) 3 3,.slice none 0 0] 49 (0,0))) := hid (by rw [hw5]; exact jal2 _ _ _ _)
 have HC : Hid (w5.heap[w2.heap.size]? = some (.cells #[.int .i64 40,.int .i32 0,.int .i64 0,.string ⟨#[]⟩,.string ⟨#[]⟩,.string ⟨#[]⟩,.string ⟨#[]⟩,.int .i64 6,.int .i32 0,.int .i64 0,.string ⟨#[]⟩,.string ⟨#[]⟩,.string ⟨#[]⟩,.string ⟨#[]⟩,.int .i64 40,.int .i32 0,.int .i64 0,.string ⟨#[]⟩,.string ⟨#[]⟩,.string ⟨#[]⟩,.string ⟨#[]⟩] 59 (0,0))) := hid (by rw [hw5]; exact (heap_alloc_old _ _ (by simp)).trans (heap_alloc_new _ _))
 rw [<- hw5] at hbm ⊢
 have HW2 := hid HB.out.size
 replace HT := hid (HT.out.old hbm)
 replace HB := hid (HB.out.trans (hbm.mono HB.out.size))
 obtain ⟨gcd,hgc⟩ : ∃ z,w2.heap.size = z := ⟨_,rfl⟩
 rw [hgc] at HF HC HT HW2 ⊢
 obtain ⟨gm,hgm⟩ : ∃ z,gcd + 1 = z := ⟨_,rfl⟩
 have HGM : Hid (gcd + 1 = gm /\ w.heap.size <= gcd) := hid ⟨hgm,HW2.out⟩
 rw [hgm] at HF ⊢
 have HSZ : Hid (gm < w5.heap.size) := hid (Array.getElem?_eq_some_iff.1 HF.out).1
 clear hbm hw5 hgc hgm HW2
 obtain ⟨ul,uc,uf⟩ := boxN HF.out
 have u0 := uc 0 _ rfl
 have u1 := uc 1 _ rfl
 have u2 := uc 2 _ rfl
 have u3 := uc 3 _ rfl
 have u4 := uc 4 _ rfl
 have u5 := uc 5 _ rfl
 have u6 := uc 6 _ rfl
 have u7 := uc 7 _ rfl
 have u8 := uc 8 _ rfl
 simp only [Nat.zero_add] at u0 u1 u2 u3 u4 u5 u6 u7 u8
 clear uc uf
 go_wp2_with fail
 clear ul u0 u1 u2 u3 u4 u5 u6 u7 u8
 obtain ⟨⟨Rl,Ra,Re⟩,hR,r1,r2,f0,f1,r3,r4,r5,r6⟩ := kn_0
 dsimp only at r1 r2 r3 r4
 subst r1
 refine (Infer_w _ tb [] ⟨#[65]⟩ (mK cK0 []) none (some ⟨gcd,0,none⟩) none 0 0 3 3 0 0 (Rl,Ra,0) w5 (.inl ⟨tb,mb,vs,rfl,HT.out⟩) (fun c hc => by cases hc) (RdX.nil _ _ _ _) (rd_box (sz := 7) (c := insC) (fun _ => rfl) HC.out cK0 rfl 3 rfl) (RdX.nil _ _ _ _) ⟨by decide,Nat.zero_le _,fun t ht => (by cases ht),Nat.zero_le _,(by show (3 : Nat) <= 1000; decide),Nat.zero_le _,fun x hx => (by cases hx),szc_k.1,(by show (0 : Int) <= 1000; decide)⟩ okc_k.1 hR).mono ?_
 rintro e_ w6 ⟨pr,cr,rfl,hrd,hbn⟩
 dsimp only at hrd ⊢
 have HRD := hid hrd
 replace HF := hid (blk_b HF.out hbn)
 replace HC := hid (blk_b HC.out hbn)
 replace HT := hid (HT.out.below hbn)
 replace HB := hid (HB.out.trans (hbn.mono HB.out.size))
 clear hrd hbn hR
 have HR2 := hid r2
 have HR3 := hid r3
 have HR4 := hid r4
 have HR5 := hid r5
 have HR6 := hid r6
 clear r2 r3 r4 r5 r6
 obtain ⟨ul,uc,uf⟩ := boxN HF.out
 have u0 := uc 0 _ rfl
 have u1 := uc 1 _ rfl
 have u2 := uc 2 _ rfl
 have u3 := uc 3 _ rfl
 have u4 := uc 4 _ rfl
 have u5 := uc 5 _ rfl
 have u6 := uc 6 _ rfl
 have u7 := uc 7 _ rfl
 have u8 := uc 8 _ rfl
 have uu0 := uf 0
 have uu1 := uf 1
 have uu2 := uf 2
 have uu3 := uf 3
 have uu4 := uf 4
 have uu5 := uf 5
 have uu6 := uf 6
 have uu7 := uf 7
 have uu8 := uf 8
 simp only [Nat.zero_add] at u0 u1 u2 u3 u4 u5 u6 u7 u8
 clear uc uf
 obtain ⟨cl,cc,cf⟩ := boxN HC.out
 have c0 := cc 0 _ rfl
 have c1 := cc 1 _ rfl
 have c2 := cc 2 _ rfl
 have c3 := cc 3 _ rfl
 have c4 := cc 4 _ rfl
 have c5 := cc 5 _ rfl
 have c6 := cc 6 _ rfl
 have c7 := cc 7 _ rfl
 have c8 := cc 8 _ rfl
 have c9 := cc 9 _ rfl
 have c10 := cc 10 _ rfl
 have c11 := cc 11 _ rfl
 have c12 := cc 12 _ rfl
 have c13 := cc 13 _ rfl
 have c14 := cc 14 _ rfl
 have c15 := cc 15 _ rfl
 have c16 := cc 16 _ rfl
 have c17 := cc 17 _ rfl
 have c18 := cc 18 _ rfl
 have c19 := cc 19 _ rfl
 have c20 := cc 20 _ rfl
 have cu0 := cf 0
 have cu1 := cf 1
 have cu2 := cf 2
 have cu3 := cf 3
 have cu4 := cf 4
 have cu5 := cf 5
 have cu6 := cf 6
 have cu7 := cf 7
 have cu8 := cf 8
 have cu9 := cf 9
 have cu10 := cf 10
 have cu11 := cf 11
 have cu12 := cf 12
 have cu13 := cf 13
 have cu14 := cf 14
 have cu15 := cf 15
 have cu16 := cf 16
 have cu17 := cf 17
 have cu18 := cf 18
 have cu19 := cf 19
 have cu20 := cf 20
 simp only [Nat.zero_add] at c0 c1 c2 c3 c4 c5 c6 c7 c8 c9 c10 c11 c12 c13 c14 c15 c16 c17 c18 c19 c20
 clear cc cf
 go_upto_region 5 with fail
 obtain ⟨w7,hw7⟩ : ∃ z,z = (((((((w6.setCell ⟨gcd,0,none⟩ (.int .i64 20)).setCell ⟨gcd,1,none⟩ (.int .i32 0)).setCell ⟨gcd,2,none⟩ (.int .i64 2)).setCell ⟨gcd,3,none⟩ (.string ⟨#[]⟩)).setCell ⟨gcd,4,none⟩ (.string ⟨#[]⟩)).setCell ⟨gcd,5,none⟩ (.string ⟨#[]⟩)).setCell ⟨gcd,6,none⟩ (.string ⟨#[]⟩)) := ⟨_,rfl⟩
 have kS : Kpt [gcd] w6 w7 := by rw [hw7]; exact (((((((Kpt.set _ _ _ _ _ (by simp) : Kpt [gcd] _ _).trans (Kpt.set _ _ _ _ _ (by simp) : Kpt [gcd] _ _) (fun _ h => .inl h)).trans (Kpt.set _ _ _ _ _ (by simp) : Kpt [gcd] _ _) (fun _ h => .inl h)).trans (Kpt.set _ _ _ _ _ (by simp) : Kpt [gcd] _ _) (fun _ h => .inl h)).trans (Kpt.set _ _ _ _ _ (by simp) : Kpt [gcd] _ _) (fun _ h => .inl h)).trans (Kpt.set _ _ _ _ _ (by simp) : Kpt [gcd] _ _) (fun _ h => .inl h)).trans (Kpt.set _ _ _ _ _ (by simp) : Kpt [gcd] _ _) (fun _ h => .inl h))
 have HC7 : Hid (w7.heap[gcd]? = some (.cells #[.int .i64 20,.int .i32 0,.int .i64 2,.string ⟨#[]⟩,.string ⟨#[]⟩,.string ⟨#[]⟩,.string ⟨#[]⟩,.int .i64 6,.int .i32 0,.int .i64 0,.string ⟨#[]⟩,.string ⟨#[]⟩,.string ⟨#[]⟩,.string ⟨#[]⟩,.int .i64 40,.int .i32 0,.int .i64 0,.string ⟨#[]⟩,.string ⟨#[]⟩,.string ⟨#[]⟩,.string ⟨#[]⟩] 59 (0,0))) := hid (by rw [hw7,(heap_setCell_same _ _ 6 _ _ _ (heap_setCell_same _ _ 5 _ _ _ (heap_setCell_same _ _ 4 _ _ _ (heap_setCell_same _ _ 3 _ _ _ (heap_setCell_same _ _ 2 _ _ _ (heap_setCell_same _ _ 1 _ _ _ (heap_setCell_same _ _ 0 _ _ _ HC.out)))))))]; rfl)
 rw [<- hw7]
 clear hw7 HC
 clear ul u0 u1 u2 u3 u4 u5 u6 u7 u8 uu0 uu1 uu2 uu3 uu4 uu5 uu6 uu7 uu8
 clear cl c0 c1 c2 c3 c4 c5 c6 c7 c8 c9 c10 c11 c12 c13 c14 c15 c16 c17 c18 c19 c20 cu0 cu1 cu2 cu3 cu4 cu5 cu6 cu7 cu8 cu9 cu10 cu11 cu12 cu13 cu14 cu15 cu16 cu17 cu18 cu19 cu20
 replace HF := hid ((kS.2 _ (Array.getElem?_eq_some_iff.1 HF.out).1 (by have := HGM.out; simp; omega)).trans HF.out)
 replace HRD := hid (HRD.out.step (frP.grow) (fun _ h _ => h) (fun b hb hl => kS.2 b hl (by have := HGM.out; have := HSZ.out; simp; omega)) kS.size)
 replace HT := hid (TrW_ne (r := gcd) HT.out (fun b hb => by have := HGM.out; omega) kS)
 replace HB := hid (HB.out.trans (kS.below (fun x hx => by simp at hx; have := HGM.out; omega) HB.out.size))
 clear kS
 obtain ⟨ul,uc,uf⟩ := boxN HF.out
 have u0 := uc 0 _ rfl
 have u1 := uc 1 _ rfl
 have u2 := uc 2 _ rfl
 have u3 := uc 3 _ rfl
 have u4 := uc 4 _ rfl
 have u5 := uc 5 _ rfl
 have u6 := uc 6 _ rfl
 have u7 := uc 7 _ rfl
 have u8 := uc 8 _ rfl
 simp only [Nat.zero_add] at u0 u1 u2 u3 u4 u5 u6 u7 u8
 clear uc uf
 go_wp2_with fail
 clear ul u0 u1 u2 u3 u4 u5 u6 u7 u8
 obtain ⟨⟨Rl1,Ra1,Re1⟩,hR,r1,r2⟩ := kn_1
 dsimp only at r1 r2
 subst r1 r2
 refine (Infer_w _ tb [] ⟨#[65]⟩ (mK cK1 []) none (some ⟨gcd,0,none⟩) none 0 0 3 3 0 0 (Rl1,0,30) w7 (.inl ⟨tb,mb,vs,rfl,HT.out⟩) (fun c hc => by cases hc) (RdX.nil _ _ _ _) (rd_box (sz := 7) (c := insC) (fun _ => rfl) HC7.out cK1 rfl 3 rfl) (RdX.nil _ _ _ _) ⟨by decide,Nat.zero_le _,fun t ht => (by cases ht),Nat.zero_le _,(by show (3 : Nat) <= 1000; decide),Nat.zero_le _,fun x hx => (by cases hx),szc_k.2,(by show (0 : Int) <= 1000; decide)⟩ okc_k.2 hR).mono ?_
 rintro e_ w8 ⟨pr1,cr1,rfl,hrd,hbn⟩
 dsimp only at hrd ⊢
 replace HF := hid (blk_b HF.out hbn)
 replace HC7 := hid (blk_b HC7.out hbn)
 replace HT := hid (HT.out.below hbn)
 replace HB := hid (HB.out.trans (hbn.mono HB.out.size))
 replace HRD := hid (HRD.out.step (frP.grow) (fun _ h _ => h) (Keeps.of_below hbn) hbn.size)
 clear hrd hbn hR
 obtain ⟨ul,uc,uf⟩ := boxN HF.out
 have u0 := uc 0 _ rfl
 have u1 := uc 1 _ rfl
 have u2 := uc 2 _ rfl
 have u3 := uc 3 _ rfl
 have u4 := uc 4 _ rfl
 have u5 := uc 5 _ rfl
 have u6 := uc 6 _ rfl
 have u7 := uc 7 _ rfl
 have u8 := uc 8 _ rfl
 simp only [Nat.zero_add] at u0 u1 u2 u3 u4 u5 u6 u7 u8
 clear uc uf
 go_wp2_with fail
 clear ul u0 u1 u2 u3 u4 u5 u6 u7 u8
 have HS8 := hid (Array.getElem?_eq_some_iff.1 HF.out).1
 refine (Next_w (mK cK1 []) none (some ⟨gcd,0,none⟩) none 0 0 3 3 0 0 0 w8 (rd_box (sz := 7) (c := insC) (fun _ => rfl) HC7.out cK1 rfl 3 rfl) (by show (3 : Nat) <= 1000; decide)).mono ?_
 rw [show nextW (mK cK1 []).code 0 = [1,2] from nx_k.1]
 rintro e_ w9 ⟨pn,cn,rfl,hrn,hbn⟩
 rw [show ([1,2] : List Int).length = 2 from rfl] at hrn ⊢
 have HRN := hid hrn
 replace HF := hid (blk_b HF.out hbn)
 replace HC7 := hid (blk_b HC7.out hbn)
 replace HT := hid (HT.out.below hbn)
 replace HB := hid (HB.out.trans (hbn.mono HB.out.size))
 replace HRD := hid (HRD.out.step (frP.grow) (fun _ h _ => h) (Keeps.of_below hbn) hbn.size)
 clear hrn hbn
 obtain ⟨ul,uc,uf⟩ := boxN HF.out
 have u0 := uc 0 _ rfl
 have u1 := uc 1 _ rfl
 have u2 := uc 2 _ rfl
 have u3 := uc 3 _ rfl
 have u4 := uc 4 _ rfl
 have u5 := uc 5 _ rfl
 have u6 := uc 6 _ rfl
 have u7 := uc 7 _ rfl
 have u8 := uc 8 _ rfl
 have uu0 := uf 0
 have uu1 := uf 1
 have uu2 := uf 2
 have uu3 := uf 3
 have uu4 := uf 4
 have uu5 := uf 5
 have uu6 := uf 6
 have uu7 := uf 7
 have uu8 := uf 8
 simp only [Nat.zero_add] at u0 u1 u2 u3 u4 u5 u6 u7 u8
 clear uc uf
 go_upto_region 8 with fail
 obtain ⟨gh,hgh⟩ : ∃ z,w9.heap.size = z := ⟨_,rfl⟩
 rw [hgh]
 obtain ⟨w10,hw10⟩ : ∃ z,z = w9.setCell ⟨gm,8,none⟩ (.slice (some ⟨gh,0,none⟩) 1 1) := ⟨_,rfl⟩
 have kS : Kpt [gm] w9 w10 := by rw [hw10]; exact Kpt.set _ _ _ _ _ (by simp)
 have HF10 : Hid (w10.heap[gm]? = some (.cells #[.string ⟨#[]⟩,.slice none 0 0,.int .i64 5,.string ⟨#[]⟩,.bool true,.bool false,.int .i64 0,.slice (some ⟨gcd,0,none⟩) 3 3,.slice (some ⟨gh,0,none⟩) 1 1] 49 (0,0))) := hid (by rw [hw10,heap_setCell_same _ _ 8 _ _ _ HF.out]; rfl)
 have hgh2 : w10.heap.size = gh := by rw [hw10,<- hgh]; simp
 rw [<- hw10]
 replace HC7 := hid ((kS.2 _ (Array.getElem?_eq_some_iff.1 HC7.out).1 (by have := HGM.out; simp; omega)).trans HC7.out)
 replace HRD := hid (HRD.out.step (frP.grow) (fun _ h _ => h) (fun b hb hl => kS.2 b hl (by have := HGM.out; have := HSZ.out; simp; omega)) kS.size)
 replace HRN := hid (HRN.out.step (sP.grow _) (fun _ h _ => h) (fun b hb hl => kS.2 b hl (by have := HGM.out; have := HSZ.out; have := HS8.out; simp; omega)) kS.size)
 replace HT := hid (TrW_ne (r := gm) HT.out (fun b hb => by have := HGM.out; omega) kS)
 replace HB := hid (HB.out.trans (kS.below (fun x hx => by simp at hx; have := HGM.out; omega) HB.out.size))
 clear kS hw10 hgh HF
 clear ul u0 u1 u2 u3 u4 u5 u6 u7 u8 uu0 uu1 uu2 uu3 uu4 uu5 uu6 uu7 uu8
 have hal := below_alR w10 (.cells #[.int .i64 0,.int .i64 1,.int .i64 2,.string ⟨#[79,98,106,101,99,116]⟩] 68)
 have HH := hid (heap_alloc_new w10 (.cells #[.int .i64 0,.int .i64 1,.int .i64 2,.string ⟨#[79,98,106,101,99,116]⟩] 68))
 obtain ⟨w11,hw11⟩ : ∃ z,z = w10.alloc (.cells #[.int .i64 0,.int .i64 1,.int .i64 2,.string ⟨#[79,98,106,101,99,116]⟩] 68) := ⟨_,rfl⟩
 rw [<- hw11] at hal HH ⊢
 rw [hgh2] at HH
 replace HF10 := hid (blk_b HF10.out hal)
 replace HC7 := hid (blk_b HC7.out hal)
 replace HT := hid (HT.out.below hal)
 replace HB := hid (HB.out.trans (hal.mono HB.out.size))
 replace HRD := hid (HRD.out.step (frP.grow) (fun _ h _ => h) (Keeps.of_below hal) hal.size)
 replace HRN := hid (HRN.out.step (sP.grow _) (fun _ h _ => h) (Keeps.of_below hal) hal.size)
 clear hal hw11 hgh2
 obtain ⟨ul,uc,uf⟩ := boxN HF10.out
 have u0 := uc 0 _ rfl
 have u1 := uc 1 _ rfl
 have u2 := uc 2 _ rfl
 have u3 := uc 3 _ rfl
 have u4 := uc 4 _ rfl
 have u5 := uc 5 _ rfl
 have u6 := uc 6 _ rfl
 have u7 := uc 7 _ rfl
 have u8 := uc 8 _ rfl
 simp only [Nat.zero_add] at u0 u1 u2 u3 u4 u5 u6 u7 u8
 clear uc uf
 go_wp2_with fail
 clear ul u0 u1 u2 u3 u4 u5 u6 u7 u8
 refine (Infer_w _ tb [] ⟨#[65]⟩ (mK cK1 hK) none (some ⟨gcd,0,none⟩) (some ⟨gh,0,none⟩) 0 0 3 3 1 1 ([],-1,29) w11 (.inl ⟨tb,mb,vs,rfl,HT.out⟩) (fun c hc => by cases hc) (RdX.nil _ _ _ _) (rd_box (sz := 7) (c := insC) (fun _ => rfl) HC7.out cK1 rfl 3 rfl) (rd_box (sz := 4) (c := hndC) (fun _ => rfl) HH.out hK rfl 1 rfl) ⟨by decide,Nat.zero_le _,fun t ht => (by cases ht),Nat.zero_le _,(by show (3 : Nat) <= 1000; decide),(by show (1 : Nat) <= 100; decide),fun x hx => (by have hx2 : x ∈ hK := hx; unfold hK at hx2; rw [List.mem_singleton.1 hx2]; decide),szc_k.2,(by show (0 : Int) <= 1000; decide)⟩ okc_k.2 kn_2).mono ?_
 rintro e_ w12 ⟨pr2,cr2,rfl,hrd,hbn⟩
 dsimp only at hrd ⊢
 replace HF10 := hid (blk_b HF10.out hbn)
 replace HC7 := hid (blk_b HC7.out hbn)
 replace HH := hid (blk_b HH.out hbn)
 replace HT := hid (HT.out.below hbn)
 replace HB := hid (HB.out.trans (hbn.mono HB.out.size))
 replace HRD := hid (HRD.out.step (frP.grow) (fun _ h _ => h) (Keeps.of_below hbn) hbn.size)
 replace HRN := hid (HRN.out.step (sP.grow _) (fun _ h _ => h) (Keeps.of_below hbn) hbn.size)
 clear hrd hbn
 have hne : Rl ≠ [] := fun e0 => by have := HR2.out; rw [e0] at this; simp at this
 obtain ⟨br,orr,rfl,-,-,-,hbr,hcr⟩ := HRD.out.place hne
 obtain ⟨a0,b0,d0⟩ := f0
 obtain ⟨a1,b1,d1⟩ := f1
 have h5 := HR5.out
 have h6 := HR6.out
 dsimp only at h5 h6
 subst h5 h6
 obtain ⟨vs0,⟨pl,cl,ps,cs,rfl,-,-⟩,hc0⟩ := hcr 0 _ HR3.out
 obtain ⟨vs1,⟨pl1,cl1,ps1,cs1,rfl,-,-⟩,hc1⟩ := hcr 1 _ HR4.out
 have m0 := hc0 0 _ rfl
 have m1 := hc1 0 _ rfl
 dsimp only at m0 m1
 simp only [Nat.add_zero,Nat.zero_mul,Nat.one_mul] at m0 m1
 have hR2 := HR2.out
 rw [hR2]
 clear hcr hc0 hc1 HRD HR2 HR3 HR4 HR5 HR6 hne hR2
 obtain ⟨ul,uc,uf⟩ := boxN HF10.out
 have u0 := uc 0 _ rfl
 have u1 := uc 1 _ rfl
 have u2 := uc 2 _ rfl
 have u3 := uc 3 _ rfl
 have u4 := uc 4 _ rfl
 have u5 := uc 5 _ rfl
 have u6 := uc 6 _ rfl
 have u7 := uc 7 _ rfl
 have u8 := uc 8 _ rfl
 simp only [Nat.zero_add] at u0 u1 u2 u3 u4 u5 u6 u7 u8
 clear uc uf
 go_wp2_with fail
 clear ul u0 u1 u2 u3 u4 u5 u6 u7 u8
 clear m0 m1
 have hal := below_alR w12 (.cells #[.int .i64 1,.int .i64 2] 3)
 have hq : eqI ([1,2] : List Int) [1,2] = true := by decide
 refine (ints_h _ _ [1,2] [1,2] _ anyB _ (HRN.out.step (sP.grow _) (fun _ h _ => h) (Keeps.of_below hal) hal.size) (rd_box (sz := 1) (c := intC) (fun _ => rfl) (heap_alloc_new _ _) [1,2] rfl 2 rfl) (by decide) (by decide)).mono ?_
 rw [hq]
 rintro e_ w13 ⟨rfl,nn,hww⟩
 have hbd : Below w12.heap.size w12 w13 := by rw [hww]; exact ⟨hal.os,hal.tape,hal.output,hal.size,hal.block⟩
 replace HF10 := hid (blk_b HF10.out hbd)
 replace HC7 := hid (blk_b HC7.out hbd)
 replace HH := hid (blk_b HH.out hbd)
 replace HT := hid (HT.out.below hbd)
 replace HB := hid (HB.out.trans (hbd.mono HB.out.size))
 clear hbd hal hww hq
 obtain ⟨ul,uc,uf⟩ := boxN HF10.out
 have u0 := uc 0 _ rfl
 have u1 := uc 1 _ rfl
 have u2 := uc 2 _ rfl
 have u3 := uc 3 _ rfl
 have u4 := uc 4 _ rfl
 have u5 := uc 5 _ rfl
 have u6 := uc 6 _ rfl
 have u7 := uc 7 _ rfl
 have u8 := uc 8 _ rfl
 simp only [Nat.zero_add] at u0 u1 u2 u3 u4 u5 u6 u7 u8
 clear uc uf
 go_wp2_with fail
 clear ul u0 u1 u2 u3 u4 u5 u6 u7 u8
 refine (Handlers_w (mK cK1 hK) none (some ⟨gcd,0,none⟩) (some ⟨gh,0,none⟩) 0 0 3 3 1 1 0 w13 (rd_box (sz := 7) (c := insC) (fun _ => rfl) HC7.out cK1 rfl 3 rfl) (rd_box (sz := 4) (c := hndC) (fun _ => rfl) HH.out hK rfl 1 rfl) ⟨by show (3 : Nat) <= 1000; decide,by show (1 : Nat) <= 100; decide⟩).mono ?_
 rw [show hndsW (mK cK1 hK).code (mK cK1 hK).hs 0 = [0] from nx_k.2.1]
 rintro e_ w14 ⟨ph0,ch0,rfl,hrh,hbn⟩
 rw [show ([0] : List Int).length = 1 from rfl] at hrh ⊢
 have HRH := hid hrh
 replace HF10 := hid (blk_b HF10.out hbn)
 replace HC7 := hid (blk_b HC7.out hbn)
 replace HH := hid (blk_b HH.out hbn)
 replace HT := hid (HT.out.below hbn)
 replace HB := hid (HB.out.trans (hbn.mono HB.out.size))
 clear hrh hbn
 obtain ⟨ul,uc,uf⟩ := boxN HF10.out
 have u0 := uc 0 _ rfl
 have u1 := uc 1 _ rfl
 have u2 := uc 2 _ rfl
 have u3 := uc 3 _ rfl
 have u4 := uc 4 _ rfl
 have u5 := uc 5 _ rfl
 have u6 := uc 6 _ rfl
 have u7 := uc 7 _ rfl
 have u8 := uc 8 _ rfl
 simp only [Nat.zero_add] at u0 u1 u2 u3 u4 u5 u6 u7 u8
 clear uc uf
 go_wp2_with fail
 clear ul u0 u1 u2 u3 u4 u5 u6 u7 u8
 have hal := below_alR w14 (.cells #[.int .i64 0] 3)
 have hq : eqI ([0] : List Int) [0] = true := by decide
 refine (ints_h _ _ [0] [0] _ anyB _ (HRH.out.step (sP.grow _) (fun _ h _ => h) (Keeps.of_below hal) hal.size) (rd_box (sz := 1) (c := intC) (fun _ => rfl) (heap_alloc_new _ _) [0] rfl 1 rfl) (by decide) (by decide)).mono ?_
 rw [hq]
 rintro e_ w15 ⟨rfl,nn,hww⟩
 have hbd : Below w14.heap.size w14 w15 := by rw [hww]; exact ⟨hal.os,hal.tape,hal.output,hal.size,hal.block⟩
 replace HF10 := hid (blk_b HF10.out hbd)
 replace HC7 := hid (blk_b HC7.out hbd)
 replace HH := hid (blk_b HH.out hbd)
 replace HT := hid (HT.out.below hbd)
 replace HB := hid (HB.out.trans (hbd.mono HB.out.size))
 clear hbd hal hww hq
 obtain ⟨ul,uc,uf⟩ := boxN HF10.out
 have u0 := uc 0 _ rfl
 have u1 := uc 1 _ rfl
 have u2 := uc 2 _ rfl
 have u3 := uc 3 _ rfl
 have u4 := uc 4 _ rfl
 have u5 := uc 5 _ rfl
 have u6 := uc 6 _ rfl
 have u7 := uc 7 _ rfl
 have u8 := uc 8 _ rfl
 simp only [Nat.zero_add] at u0 u1 u2 u3 u4 u5 u6 u7 u8
 clear uc uf
 go_wp2_with fail
 clear ul u0 u1 u2 u3 u4 u5 u6 u7 u8
 refine (Handlers_w (mK cK1 hK) none (some ⟨gcd,0,none⟩) (some ⟨gh,0,none⟩) 0 0 3 3 1 1 1 w15 (rd_box (sz := 7) (c := insC) (fun _ => rfl) HC7.out cK1 rfl 3 rfl) (rd_box (sz := 4) (c := hndC) (fun _ => rfl) HH.out hK rfl 1 rfl) ⟨by show (3 : Nat) <= 1000; decide,by show (1 : Nat) <= 100; decide⟩).mono ?_
 rw [show hndsW (mK cK1 hK).code (mK cK1 hK).hs 1 = [] from nx_k.2.2]
 rintro e_ w16 ⟨ph1,ch1,rfl,hrh,hbn⟩
 rw [show ([] : List Int).length = 0 from rfl] at hrh ⊢
 have HRI := hid hrh
 replace HF10 := hid (blk_b HF10.out hbn)
 replace HC7 := hid (blk_b HC7.out hbn)
 replace HH := hid (blk_b HH.out hbn)
 replace HT := hid (HT.out.below hbn)
 replace HB := hid (HB.out.trans (hbn.mono HB.out.size))
 clear hrh hbn
 obtain ⟨ul,uc,uf⟩ := boxN HF10.out
 have u0 := uc 0 _ rfl
 have u1 := uc 1 _ rfl
 have u2 := uc 2 _ rfl
 have u3 := uc 3 _ rfl
 have u4 := uc 4 _ rfl
 have u5 := uc 5 _ rfl
 have u6 := uc 6 _ rfl
 have u7 := uc 7 _ rfl
 have u8 := uc 8 _ rfl
 simp only [Nat.zero_add] at u0 u1 u2 u3 u4 u5 u6 u7 u8
 clear uc uf
 go_wp2_with fail
 go_ret
 exact ⟨rfl,HB.out⟩
end Go.Proofs.YtfpeakkbbfnhcaaGreat.R
