/- Texts that the proof is made of, joined. No condition. -/
import Derived.Test.YtofnbapnmhibaaaGreatE610
import Derived.Lib.SlBytesConst
import Derived.SliceStrings
import Derived.Test.YtofnbapnmhibaaaGreatE68
import Derived.Test.YtofnbapnmhibaaaGreatE65
import Derived.Deep.RegionLaw
import Derived.IntWalk
import Derived.Test.YtofnbapnmhibaaaGreatE6H
set_option linter.unusedVariables false
set_option linter.unusedSimpArgs false
set_option maxRecDepth 100000
set_option maxHeartbeats 16000000
namespace Go.Proofs.YtofnbapnmhibaaaGreat.A
open Go.RowKit Go.Proofs.YtofnbapnmhibaaaGreat.D Go.Proofs.YtofnbapnmhibaaaGreat.O
theorem method_put (wb pb mb : Nat) (x : Mth) (hx : goodM x) (ok : Nat -> Prop) (vs : List Value) (st : WS) (w : World) (hw : Wt w ok wb pb mb st) (hok : ∀ b,ok b -> b < w.heap.size) (hv : mP ok w vs x) (hroom : Room st (costM x)) :
  Calls Tryz.prog 56 #[.pointer (some ⟨wb,0,none⟩),.agg vs.toArray] w (Wrote ok wb pb mb (wMth x st) w) := by
 obtain ⟨vp,vc,vh,rfl,h1,h2,h3⟩ := hv
 obtain ⟨pp,cp,rfl,-⟩ := h1.len
 obtain ⟨pc,cc,rfl,-⟩ := h2.len
 obtain ⟨ph,ch,rfl,-⟩ := h3.len
 obtain ⟨nm,ps,⟨r0,r1⟩,s,a,lo,code,hs⟩ := x
 cases s <;> cases a
 ·exact method_false_false wb pb mb nm ps r0 r1 lo code hs _ _ _ _ _ _ _ _ _ hx ok st w hw hok h1 h2 h3 hroom
 ·exact method_false_true wb pb mb nm ps r0 r1 lo code hs _ _ _ _ _ _ _ _ _ hx ok st w hw hok h1 h2 h3 hroom
 ·exact method_true_false wb pb mb nm ps r0 r1 lo code hs _ _ _ _ _ _ _ _ _ hx ok st w hw hok h1 h2 h3 hroom
 ·exact method_true_true wb pb mb nm ps r0 r1 lo code hs _ _ _ _ _ _ _ _ _ hx ok st w hw hok h1 h2 h3 hroom
theorem class_box (wb pb mb : Nat) (nm su : ByteArray) (is : List ByteArray) (kd : Int) (fs : List Fld) (ms : List Mth) (pi pf pm : Option Addr) (ni nf nx ci cf cm : Nat) (hx : goodC ⟨nm,su,is,kd,fs,ms⟩) (ok : Nat -> Prop) (st : WS) (w : World) (hw : Wt w ok wb pb mb st) (hok : ∀ b,ok b -> b < w.heap.size)
  (hi : RdX 1 (sP strC) ok w (.slice pi ni ci) is) (hf : RdX 4 (sP fldC) ok w (.slice pf nf cf) fs) (hm : RdX 9 mP ok w (.slice pm nx cm) ms) (hroom : Room st (costC ⟨nm,su,is,kd,fs,ms⟩)) :
  Calls Tryz.prog 42 #[.pointer (some ⟨wb,0,none⟩),.agg #[.string nm,.string su,.slice pi ni ci,.int .i64 kd,.slice pf nf cf,.slice pm nx cm]] w (Wrote ok wb pb mb (wCls ⟨nm,su,is,kd,fs,ms⟩ st) w) := by
 obtain ⟨hx,hwf⟩ := hx
 unfold clsB at hx
 simp only [Bool.and_eq_true,allB_iff,decide_eq_true_eq] at hx
 obtain ⟨⟨⟨⟨⟨hn,hs⟩,hi'⟩,hk⟩,hf'⟩,hm'⟩ := hx
 unfold costC at hroom
 simp only at hroom
 have g1 := name_size hn
 have g2 := name_size hs
 have hs1 := sum_const (α := ByteArray) 1 is
 have hs2 := sum_const (α := Fld) 3 fs
 obtain ⟨M,hM⟩ : ∃ M,M = (ms.map costM).sum := ⟨_,rfl⟩
 rw [<- hM] at hroom
 have hl1 : is.length <= 1000000 := by have := hi'.1; omega
 have hl2 : fs.length <= 1000000 := by have := hf'.1; omega
 have hl3 : ms.length <= 1000000 := by have := hm'.1; omega
 have hz1 : ∀ s ∈ is,s.size <= 1000 := fun s hs => by have := name_size (hi'.2 s hs); omega
 have hG : ∀ x ∈ ms,goodM x := fun x hx => ⟨hm'.2 x hx,hwf x hx⟩
 have R1 := hroom.next (b := 5 + is.length + fs.length * 3 + M) (ext_text (s := nm) (by omega)) (by omega)
 have R2 := R1.next (b := 4 + is.length + fs.length * 3 + M) (ext_text (s := su) (by omega)) (by omega)
 have E1 := ext_list (f := wText) (c := fun _ => 1) (l := is) (fun x hx => ext_text (hz1 x hx)) (by omega)
 rw [hs1] at E1
 have R3 := R2.next (b := 3 + fs.length * 3 + M) E1 (by omega)
 have R4 := R3.next (b := 2 + fs.length * 3 + M) (ext_nums (n := 1) (zs := [kd]) (by simp; omega) (by simp)) (by omega)
 have E2 := ext_list (f := wFld) (c := fun _ => 3) (l := fs) (fun x hx => ext_fld (hf'.2 x hx)) (by omega)
 rw [hs2] at E2
 have R5 := R4.next (b := 1 + M) E2 (by omega)
 have HI := hid hi
 have HF := hid hf
 have HM := hid hm
 have HG := hid hG
 have HZ := hid hz1
 have HFB := hid hf'.2
 have HS1 := hid hs1
 have HS2 := hid hs2
 have HMM := hid hM
 clear hi hf hm hG hz1 hs1 hs2 hM hi' hf' hm' hwf hn hs E1 E2
 have H0 := Sit.start [.string nm,.string su,.slice pi ni ci,.int .i64 kd,.slice pf nf cf,.slice pm nx cm] 57 hw hok
 go_enter Tryz.func42,Tryz.ntmps42
 go_wp2_with fail
 refine (text_w _ wb pb mb _ nm _ H0.1 H0.2.1 (by omega) (hroom.le (by omega))).mono ?_
 intro e w1 hq
 obtain ⟨rfl,H1⟩ := H0.wrote hq
 clear hq
 obtain ⟨a1_0,a1_1,a1_2,a1_3,a1_4,a1_5⟩ := z6 H1.2.2.1
 have hX1 := H1.2.1 _ (.inr rfl)
 go_wp2_with fail
 refine (text_w _ wb pb mb _ su _ H1.1 H1.2.1 (by omega) (R1.le (by omega))).mono ?_
 intro e w2 hq
 obtain ⟨rfl,H2⟩ := H1.wrote hq
 clear hq
 obtain ⟨a2_0,a2_1,a2_2,a2_3,a2_4,a2_5⟩ := z6 H2.2.2.1
 have hX2 := H2.2.1 _ (.inr rfl)
 go_wp2_with fail
 refine (putList_str wText (fun _ => 1) (fun s => s.size <= 1000) wb pb mb (fun x hx => ext_text hx) (fun x hx => text_put wb pb mb x hx) is _ _ _ _ _ _ H2.1 H2.2.1 (H2.rd (sP.grow _) HI.out) HZ.out (by rw [HS1.out]; exact R2.le (by omega)) hl1).mono ?_
 intro e w3 hq
 obtain ⟨rfl,H3⟩ := H2.wrote hq
 clear hq
 obtain ⟨a3_0,a3_1,a3_2,a3_3,a3_4,a3_5⟩ := z6 H3.2.2.1
 have hX3 := H3.2.1 _ (.inr rfl)
 go_wp2_with fail
 refine (num_w1 w3.heap.size _ wb pb mb _ kd _ rfl _ H3.1 H3.2.1 (by omega) (by omega) (R3.le (by omega))).mono ?_
 intro e w4 hq
 obtain ⟨rfl,H4⟩ := (H3.alloc _).wrote hq
 clear hq
 obtain ⟨a4_0,a4_1,a4_2,a4_3,a4_4,a4_5⟩ := z6 H4.2.2.1
 have hX4 := H4.2.1 _ (.inr rfl)
 go_wp2_with fail
 refine (putList_fld wFld (fun _ => 3) (fun f => fldB f = true) wb pb mb (fun x hx => ext_fld hx) (fun x hx => field_put wb pb mb x hx) fs _ _ _ _ _ _ H4.1 H4.2.1 (H4.rd (sP.grow _) HF.out) HFB.out (by rw [HS2.out]; exact R4.le (by omega)) hl2).mono ?_
 intro e w5 hq
 obtain ⟨rfl,H5⟩ := H4.wrote hq
 clear hq
 obtain ⟨a5_0,a5_1,a5_2,a5_3,a5_4,a5_5⟩ := z6 H5.2.2.1
 have hX5 := H5.2.1 _ (.inr rfl)
 go_wp2_with fail
 refine (putList_mth wMth costM goodM wb pb mb (fun x hx => ext_mth hx.1 hx.2) (fun x hx => method_put wb pb mb x hx) ms _ _ _ _ _ _ H5.1 H5.2.1 (H5.rd mP.grow HM.out) HG.out (by rw [<- HMM.out]; exact R5) hl3).mono ?_
 intro e w6 hq
 obtain ⟨rfl,H6⟩ := H5.wrote hq
 clear hq
 go_wp2_with fail
 exact bodyPost_end (results_none rfl _ _ _) rfl H6.fin
theorem class_put (wb pb mb : Nat) (x : Cls) (hx : goodC x) (ok : Nat -> Prop) (vs : List Value) (st : WS) (w : World) (hw : Wt w ok wb pb mb st) (hok : ∀ b,ok b -> b < w.heap.size) (hv : cP ok w vs x) (hroom : Room st (costC x)) :
  Calls Tryz.prog 42 #[.pointer (some ⟨wb,0,none⟩),.agg vs.toArray] w (Wrote ok wb pb mb (wCls x st) w) := by
 obtain ⟨vp,vc,vh,rfl,h1,h2,h3⟩ := hv
 obtain ⟨pp,cp,rfl,-⟩ := h1.len
 obtain ⟨pc,cc,rfl,-⟩ := h2.len
 obtain ⟨ph,ch,rfl,-⟩ := h3.len
 obtain ⟨nm,su,is,kd,fs,ms⟩ := x
 exact class_box wb pb mb nm su is kd fs ms _ _ _ _ _ _ _ _ _ hx ok st w hw hok h1 h2 h3 hroom
def small (a : Arch) : Prop := costA a <= 8000000
theorem plen_s (B pb mb : Nat) (sl : Value) (L : List ByteArray) (w : World) (h : Pl w B pb mb sl L) :
  Calls Tryz.prog 43 #[.pointer (some ⟨pb,0,none⟩)] w fun e w' => e = .returned (.int .i64 L.length) /\ w = w' := plen_any B pb mb sl L w h
def WrittenAns (a : Arch) (w : World) (e : Ending) (w' : World) : Prop :=
 Below w.heap.size w w' /\ if rightA a = true then ∃ wb pb mb,e = .returned (.tuple #[.pointer (some ⟨wb,0,none⟩),.bool true]) /\ Wt w' (fun b => b < w.heap.size) wb pb mb (written a) else e = .returned (.tuple #[.pointer none,.bool false])
theorem written_any (a : Arch) (ok : Nat -> Prop) (p : Option Addr) (n cap : Nat) (w : World) (hz : szA a) (hwf : wfA a) (hsm : formedB a = true -> small a) (hg : Glob w) (hr : RdA ok w (.slice p n cap) a) :
  Calls Tryz.prog 28 #[.agg #[.slice p n cap]] w (WrittenAns a w) := by
 have hr0 : RdA (fun b => b < w.heap.size) w (.slice p n cap) a := hr.step cP.grow (fun b _ h => h) (fun _ _ _ => rfl) (Nat.le_refl _)
 have HR := hid hr0
 have hA : Below w.heap.size w (w.alloc (.cells #[.slice p n cap] 50)) := (Below.refl _ w).alloc (Nat.le_refl _) _
 have hg1 := hg.below hA (Nat.le_refl _)
 have hrA := hr0.any cP.grow hA
 have HA := hid hrA
 clear hr hr0 hrA
 cases hf : formedB a with
 | false =>
  have HF : Hid (rightA a = false) := hid (by unfold rightA; rw [hf]; rfl)
  go_enter Tryz.func28,Tryz.ntmps28
  go_wp2_with fail
  refine (formed_any a _ p n cap _ hz hg1 HA.out).mono ?_
  rintro e w1 ⟨rfl,hb1⟩
  have hx1 := boxed (vs := [.slice p n cap]) hb1
  go_wp2_with fail
  go_ret2
  refine ⟨hx1.2.2,?_⟩
  rw [if_neg (by rw [HF.out]; decide)]
  rfl
 | true =>
  have hsma := hsm hf
  unfold small at hsma
  have hex := ext_arc hf hwf
  have hlen : a.length <= 1000000 := by
   have := hf
   unfold formedB at this
   rw [allB_iff] at this
   omega
  have hgood : ∀ c ∈ a,goodC c := fun c hc => by
   have := hf
   unfold formedB at this
   rw [allB_iff] at this
   exact ⟨this.2 c hc,hwf c hc⟩
  have HG := hid hgood
  have hroom : Room ([],[]) (1 + (a.map costC).sum) := by unfold Room; unfold costA at hsma; simp; omega
  clear hex hgood hsma
  go_enter Tryz.func28,Tryz.ntmps28
  go_wp2_with fail
  refine (formed_any a _ p n cap _ hz hg1 HA.out).mono ?_
  rintro e w1 ⟨rfl,hb1⟩
  obtain ⟨hx1,hlt1,hB1⟩ := boxed (vs := [.slice p n cap]) hb1
  have q1 := hx1 0 _ rfl
  simp only [Nat.zero_add] at q1
  clear hb1 hx1
  go_wp2_with fail
  refine (pnew_any _).mono ?_
  rintro e w2 ⟨pb,mb,rfl,hp2,hb2⟩
  have q2 : w2.cell? ⟨w.heap.size,0,none⟩ = some (.slice p n cap) := (hb2.cell (p := ⟨w.heap.size,0,none⟩) hlt1).trans q1
  have hlt2 : w.heap.size < w2.heap.size := Nat.lt_of_lt_of_le hlt1 hb2.size
  have hB2 : Below w.heap.size w w2 := hB1.trans (hb2.mono hB1.size)
  have hB3 : Below w.heap.size w (w2.alloc (.cells #[.pointer (some ⟨pb,0,none⟩),.slice none 0 0] 93)) := hB2.alloc (by omega) _
  have hfp := hp2.lt
  have hw3 : Wt (w2.alloc (.cells #[.pointer (some ⟨pb,0,none⟩),.slice none 0 0] 93)) (fun b => b < w.heap.size) w2.heap.size pb mb ([],[]) := by
   refine ⟨.slice none 0 0,.slice none 0 0,⟨heap_alloc_new _ _,(hp2.mono (Nat.zero_le _)).kpt (Kpt.alloc [] _ _) (fun x _ => by simp),⟨rfl,.inl ⟨rfl,rfl⟩⟩,(fun h => by cases h),fun x hx => ⟨?_,(fun h => by cases h),?_⟩,?_,fun g h => by cases h⟩⟩
   ·have := (hfp x hx).2; omega
   ·have := (hfp x hx).1; omega
   ·omega
  clear hb2 hp2 hfp
  go_wp2_with fail
  refine (putList_cls wCls costC goodC w2.heap.size pb mb (fun x hx => ext_cls hx.1 hx.2) (fun x hx => class_put _ pb mb x hx) a _ _ _ _ _ _ hw3 (fun b hb => by simp; omega) (HR.out.step cP.grow (fun _ h _ => h) (.of_below hB3) hB3.size) HG.out hroom hlen).mono ?_
  intro e w4 hq
  obtain ⟨rfl,hw4,hf4⟩ := hq
  have hB4 : Below w.heap.size w w4 := hB3.trans (hf4.below (fun b hb => hb) hB3.size)
  obtain ⟨sl,bv,hwp⟩ := hw4
  obtain ⟨hlt4,c0,c1,f1⟩ := hwp.cells
  clear hf4
  go_wp2_with fail
  refine (plen_s 0 pb mb sl _ w4 hwp.2.1).mono ?_
  rintro e w' ⟨rfl,rfl⟩
  have hwr : wList wCls a ([],[]) = written a := rfl
  by_cases hl : (written a).1.length <= 10000
  ·have hd : decide (10000 < ((wList wCls a ([],[])).1.length : Int)) = false := by rw [hwr]; simp; omega
   have HF : Hid (rightA a = true) := hid (by unfold rightA; rw [hf]; simp [hl])
   have HW := hid hwp
   clear hwp hwr
   go_wp2_with fail
   go_ret2
   refine ⟨hB4,?_⟩
   rw [if_pos HF.out]
   exact ⟨_,pb,mb,rfl,sl,bv,HW.out⟩
  ·have hd : decide (10000 < ((wList wCls a ([],[])).1.length : Int)) = true := by rw [hwr]; simp; omega
   have HF : Hid (rightA a = false) := hid (by unfold rightA; rw [hf]; simp [hl])
   clear hwp hwr
   go_wp2_with fail
   go_ret2
   refine ⟨hB4,?_⟩
   rw [if_neg (by rw [HF.out]; decide)]
   rfl
end Go.Proofs.YtofnbapnmhibaaaGreat.A
namespace Go.Proofs.YtofnbapnmhibaaaGreat.A
open Go.RowKit Go.Proofs.YtofnbapnmhibaaaGreat.D Go.Proofs.YtofnbapnmhibaaaGreat.O
theorem right_a (a : Arch) (ok : Nat -> Prop) (p : Option Addr) (n cap : Nat) (w : World) (hz : szA a) (hwf : wfA a) (hsm : formedB a = true -> small a) (hg : Glob w) (hr : RdA ok w (.slice p n cap) a) :
  Calls Tryz.prog 15 #[.agg #[.slice p n cap]] w fun e w' => e = .returned (.bool (rightA a)) /\ Below w.heap.size w w' := by
 have hA : Below w.heap.size w (w.alloc (.cells #[.slice p n cap] 50)) := (Below.refl _ w).alloc (Nat.le_refl _) _
 have hg1 := hg.below hA (Nat.le_refl _)
 have HA := hid (hr.any cP.grow hA)
 clear hr
 go_enter Tryz.func15,Tryz.ntmps15
 go_wp2_with fail
 refine (written_any a ok p n cap _ hz hwf hsm hg1 HA.out).mono ?_
 intro e w1 hq
 obtain ⟨hb1,hq⟩ := hq
 have hB := hA.trans (hb1.mono hA.size)
 by_cases hR : rightA a = true
 ·rw [if_pos hR] at hq
  obtain ⟨wb,pb,mb,rfl,-⟩ := hq
  go_wp2_with fail
  go_ret
  exact ⟨ret_bool hR.symm,hB⟩
 ·rw [if_neg hR] at hq
  subst hq
  go_wp2_with fail
  go_ret
  exact ⟨ret_bool (Bool.eq_false_iff.2 hR).symm,hB⟩
end Go.Proofs.YtofnbapnmhibaaaGreat.A
namespace Go.Proofs.YtofnbapnmhibaaaGreat.A
open Go.RowKit Go.Proofs.YtofnbapnmhibaaaGreat.D Go.Proofs.YtofnbapnmhibaaaGreat.O
def OwnX {α : Type} (sz : Nat) (T : TypeId) (P : Pv α) (w : World) (B : Nat) (v : Value) (xs : List α) : Prop :=
 ∃ cs : List Value,w.ownsRow B T sz v xs.length cs /\ ∀ i x,xs[i]? = some x -> P (fun b => B <= b /\ v.ownBlock ≠ some b) w ((cs.drop (i * sz)).take sz) x
theorem OwnX.nil {α : Type} (sz : Nat) (T : TypeId) (P : Pv α) (w : World) (B : Nat) : OwnX sz T P w B (.slice none 0 0) ([] : List α) := ⟨[],⟨by simp,.inl ⟨rfl,rfl⟩⟩,fun i x h => by simp at h⟩
theorem OwnX.lt {α : Type} {sz : Nat} {T : TypeId} {P : Pv α} {w : World} {B : Nat} {v : Value} {xs : List α} (h : OwnX sz T P w B v xs) : ∀ k,v.ownBlock = some k -> B <= k /\ k < w.heap.size := by
 obtain ⟨cs,h1,_⟩ := h
 exact World.ownsRow.lt h1
theorem OwnX.rd {α : Type} {sz : Nat} {T : TypeId} {P : Pv α} (hP : MonoG P) {w : World} {B : Nat} {v : Value} {xs : List α} (h : OwnX sz T P w B v xs) : RdX sz P (fun b => B <= b) w v xs := by
 obtain ⟨cs,h1,h2⟩ := h
 have hh := h1
 rcases h1.2 with ⟨rfl,hn⟩ | ⟨g,cap,cur,rfl,hb,hg,hle,_⟩
 ·have : xs = [] := List.eq_nil_of_length_eq_zero hn
  subst this
  exact RdX.nil _ _ _ _
 ·refine ⟨_,cap,rfl,hle,(fun h => by cases h),.inr ⟨g,0,rfl,hb,(Array.getElem?_eq_some_iff.1 hg).1,fun i x hx => ⟨_,hP _ _ _ _ _ _ (h2 i x hx) (fun b hb _ => hb.1) (fun _ _ _ => rfl) (Nat.le_refl _),fun j u hu => ?_⟩⟩⟩
  have hj : j < sz := by
   have := (List.getElem?_eq_some_iff.1 hu).1
   rw [List.length_take] at this
   omega
  rw [List.getElem?_take_of_lt hj,List.getElem?_drop] at hu
  have := World.ownsRow.cells hh (g := g) rfl (i * sz + j) u hu
  rw [D.add0] at this
  rw [<- Nat.add_assoc] at this
  exact this
theorem OwnX.mono {α : Type} {sz : Nat} {T : TypeId} {P : Pv α} (hP : MonoG P) {w : World} {B B' : Nat} {v : Value} {xs : List α} (h : OwnX sz T P w B v xs) (hB : B' <= B) : OwnX sz T P w B' v xs := by
 obtain ⟨cs,h1,h2⟩ := h
 refine ⟨cs,⟨h1.1,?_⟩,fun i x hx => hP _ _ _ _ _ _ (h2 i x hx) (fun b hb _ => ⟨Nat.le_trans hB hb.1,hb.2⟩) (fun _ _ _ => rfl) (Nat.le_refl _)⟩
 rcases h1.2 with hn | ⟨g,cap,cur,e,hb,r⟩
 ·exact .inl hn
 ·exact .inr ⟨g,cap,cur,e,Nat.le_trans hB hb,r⟩
def Shape {α : Type} (P : Pv α) (sz : Nat) : Prop := ∀ (ok : Nat -> Prop) (w : World) (vs : List Value) (x : α),P ok w vs x -> vs.length = sz /\ ∀ u ∈ vs,u.oneCell' = true
theorem shape_ins : Shape (sP insC) 7 := fun _ _ vs x h => by
 have : vs = insC x := h
 subst this
 exact ⟨rfl,by simp [insC,Value.oneCell']⟩
theorem shape_mth : Shape mP 9 := fun _ _ vs x h => by
 obtain ⟨vp,vc,vh,rfl,h1,h2,h3⟩ := h
 obtain ⟨pp,cp,rfl,-⟩ := h1.len
 obtain ⟨pc,cc,rfl,-⟩ := h2.len
 obtain ⟨ph,ch,rfl,-⟩ := h3.len
 exact ⟨rfl,by simp [Value.oneCell']⟩
theorem shape_cls : Shape cP 6 := fun _ _ vs x h => by
 obtain ⟨vp,vc,vh,rfl,h1,h2,h3⟩ := h
 obtain ⟨pp,cp,rfl,-⟩ := h1.len
 obtain ⟨pc,cc,rfl,-⟩ := h2.len
 obtain ⟨ph,ch,rfl,-⟩ := h3.len
 exact ⟨rfl,by simp [Value.oneCell']⟩
def Inf (T TS : TypeId) (sz bytes : Nat) (z : Value) : Prop := (Tryz.prog.info? T).map (fun i => (i.zero,i.size,i.bytes)) = some (some z,sz,bytes) /\ Tryz.prog.underlying TS = some (.slice T) /\ z.cells.size = sz /\ 0 < sz /\ bytes <= 1000
theorem adadd (x : Addr) (a b : Nat) : (x.add a).add b = x.add (a + b) := by
 obtain ⟨g,o,s⟩ := x
 unfold Addr.add
 by_cases ha : a = 0
 ·subst ha; simp
 ·by_cases hb : b = 0
  ·subst hb; simp
  ·rw [if_neg ha,if_neg hb,if_neg (by omega)]
   simp [Nat.add_assoc]
theorem run_appX {α : Type} {sz bytes : Nat} {T TS : TypeId} {z : Value} (hI : Inf T TS sz bytes z) {P : Pv α} (hP : MonoG P) (hS : Shape P sz) (w : World) (B : Nat) (v : Value) (xs ys : List α) (hown : OwnX sz T P w B v xs) (ad : Addr) (c : Nat)
  (hsrc : ∀ (i : Nat) y,ys[i]? = some y -> ∃ vs,P (fun b => B <= b /\ v.ownBlock ≠ some b) w vs y /\ ∀ j u,vs[j]? = some u -> w.cell? (ad.add (i * sz + j)) = some u)
  (hb : xs.length + ys.length <= 1000000) (hbase : B <= w.heap.size) (ty : TypeId) :
  ∃ v' w',(Builtin.append_ #[TS,TS] ty #[v,.slice (some ad) ys.length c]).run Tryz.prog w = .ok v' w' /\ OwnX sz T P w' B v' (xs ++ ys) /\ w.grownBy w' v.ownBlock /\ (v'.ownBlock = v.ownBlock ∨ v'.ownBlock = some w.heap.size) := by
 obtain ⟨hi0,hund,hzs,hsz,hby⟩ := hI
 obtain ⟨i0,hi,hz0,hz1,hz2⟩ := info_parts hi0
 obtain ⟨cs,h1,h2⟩ := hown
 have hex : ∃ news : List Value,news.length = ys.length * sz /\ (∀ j u,news[j]? = some u -> w.cell? (ad.add j) = some u) /\ (∀ u ∈ news,u.oneCell' = true) /\ ∀ (i : Nat) y,ys[i]? = some y -> P (fun b => B <= b /\ v.ownBlock ≠ some b) w ((news.drop (i * sz)).take sz) y := by
  clear hb
  revert ad
  induction ys with
  | nil => exact fun ad _ => ⟨[],by simp,by simp,by simp,by simp⟩
  | cons y ys ih =>
   intro ad hsrc
   obtain ⟨vs,hv,hc⟩ := hsrc 0 y rfl
   obtain ⟨hl,ho⟩ := hS _ _ _ _ hv
   obtain ⟨news,n1,n2,n3,n4⟩ := ih (ad.add sz) (fun i x hx => by
    obtain ⟨vs,hv,hc⟩ := hsrc (i + 1) x (by simpa using hx)
    refine ⟨vs,hv,fun j u hu => ?_⟩
    have := hc j u hu
    rw [Nat.succ_mul,show i * sz + sz + j = sz + (i * sz + j) by omega] at this
    rw [adadd]
    exact this)
   refine ⟨vs ++ news,by rw [List.length_append,n1,hl,List.length_cons,Nat.succ_mul,Nat.add_comm],fun j u hu => ?_,fun u hu => ?_,fun i x hx => ?_⟩
   ·by_cases hj : j < vs.length
    ·rw [List.getElem?_append_left hj] at hu
     have := hc j u hu
     rwa [Nat.zero_mul,Nat.zero_add] at this
    ·rw [List.getElem?_append_right (by omega)] at hu
     have := n2 _ u hu
     rw [adadd,show sz + (j - vs.length) = j by omega] at this
     exact this
   ·rcases List.mem_append.1 hu with h | h
    ·exact ho u h
    ·exact n3 u h
   ·cases i with
    | zero =>
     simp only [List.getElem?_cons_zero,Option.some.injEq] at hx
     subst hx
     rw [Nat.zero_mul,List.drop_zero,List.take_append_of_le_length (by omega),List.take_of_length_le (by omega)]
     exact hv
    | succ i =>
     have := n4 i x (by simpa using hx)
     rw [Nat.succ_mul,Nat.add_comm,<- List.drop_drop,<- hl,List.drop_left,hl]
     exact this
 obtain ⟨news,n1,n2,n3,n4⟩ := hex
 have hbb : (xs.length + ys.length) * bytes <= 140737488355328 := Nat.le_trans (Nat.mul_le_mul hb hby) (by decide)
 obtain ⟨v',w',hrun,g1,g2,_,g4⟩ := run_append_own_at (P := Tryz.prog) w B TS ty T i0 z sz bytes hund hi hz0 hz1 hz2 hzs hsz v xs.length cs h1 ad ys.length c news n1 n2 n3 (by unfold maxLen; omega) hbb hbase
 have hok' : ∀ b,(B <= b /\ v.ownBlock ≠ some b) -> b < w.heap.size -> B <= b /\ v'.ownBlock ≠ some b := fun b hb hlt => ⟨hb.1,by
  rcases g4 with e | e
  ·rw [e]; exact hb.2
  ·rw [e]; simp only [ne_eq,Option.some.injEq]; omega⟩
 have hkeep : Keeps (fun b => B <= b /\ v.ownBlock ≠ some b) w w' := .of_grown g2 (fun b hb => hb.2)
 refine ⟨v',w',hrun,⟨cs ++ news,by rw [List.length_append]; exact g1,fun i x hx => ?_⟩,g2,g4⟩
 have hcl : cs.length = xs.length * sz := h1.1
 by_cases hlt : i < xs.length
 ·rw [List.getElem?_append_left hlt] at hx
  have hle : i * sz + sz <= xs.length * sz := by rw [<- Nat.succ_mul]; exact Nat.mul_le_mul_right _ hlt
  rw [List.drop_append_of_le_length (by omega),List.take_append_of_le_length (by rw [List.length_drop]; omega)]
  exact hP _ _ _ _ _ _ (h2 i x hx) (fun b hb hl => hok' b hb hl) hkeep g2.size
 ·rw [List.getElem?_append_right (by omega)] at hx
  obtain ⟨k,rfl⟩ : ∃ k,i = xs.length + k := ⟨i - xs.length,by omega⟩
  rw [Nat.add_sub_cancel_left] at hx
  rw [Nat.add_mul,<- hcl,<- List.drop_drop,List.drop_left]
  exact hP _ _ _ _ _ _ (n4 k x hx) (fun b hb hl => hok' b hb hl) hkeep g2.size
end Go.Proofs.YtofnbapnmhibaaaGreat.A
namespace Go.Proofs.YtofnbapnmhibaaaGreat.A
open Go.RowKit Go.Proofs.YtofnbapnmhibaaaGreat.D Go.Proofs.YtofnbapnmhibaaaGreat.O
structure Cx where
 B : Nat
 rb : Nat
 sb : Nat
 pb : Nat
 mb : Nat
 sl : Value
 L : List ByteArray
 bs : List UInt8
 top : Nat
end Go.Proofs.YtofnbapnmhibaaaGreat.A
namespace Go.Proofs.YtofnbapnmhibaaaGreat.A
open Go.RowKit Go.Proofs.YtofnbapnmhibaaaGreat.D Go.Proofs.YtofnbapnmhibaaaGreat.O
def gF (f : Fld) : Prop := f.1.size <= 100000 /\ f.2.1.2.size <= 100000
def gI (x : Ins) : Prop := szI x /\ okI x
def gM (m : Mth) : Prop := szM m /\ wfM m
theorem inf_ins : Inf 31 26 7 88 (.agg #[.int .i64 0,.int .i32 0,.int .i64 0,.string ⟨#[]⟩,.string ⟨#[]⟩,.string ⟨#[]⟩,.string ⟨#[]⟩]) := ⟨by kernel_rfl,Tryz.underlying26,rfl,by decide,by decide⟩
theorem inf_mth : Inf 29 55 9 128 (.agg #[.string ⟨#[]⟩,.slice none 0 0,.int .i64 0,.string ⟨#[]⟩,.bool false,.bool false,.int .i64 0,.slice none 0 0,.slice none 0 0]) := ⟨by kernel_rfl,Tryz.underlying55,rfl,by decide,by decide⟩
theorem inf_cls : Inf 57 48 6 112 (.agg #[.string ⟨#[]⟩,.string ⟨#[]⟩,.slice none 0 0,.int .i64 0,.slice none 0 0,.slice none 0 0]) := ⟨by kernel_rfl,Tryz.underlying48,rfl,by decide,by decide⟩
end Go.Proofs.YtofnbapnmhibaaaGreat.A
namespace Go.Proofs.YtofnbapnmhibaaaGreat.A
open Go.RowKit Go.Proofs.YtofnbapnmhibaaaGreat.D Go.Proofs.YtofnbapnmhibaaaGreat.O
theorem boxN {w : World} {b : Nat} {vs : List Value} {T : TypeId} (h : w.heap[b]? = some (.cells vs.toArray T (0,0))) : b < w.heap.size /\ CellsAt w b 0 vs /\ ∀ j,w.frozen? ⟨b,j,none⟩ = false := by
 refine ⟨(Array.getElem?_eq_some_iff.1 h).1,fun j u hu => ?_,fun j => ?_⟩
 ·rw [Nat.zero_add]
  simp [World.cell?,h,hu]
 ·simp [World.frozen?,h]
theorem set6 {w : World} {X : Nat} {T : TypeId} {a0 a1 a2 a3 a4 a5 v0 v1 v2 v3 v4 v5 : Value} (h : w.heap[X]? = some (.cells #[a0,a1,a2,a3,a4,a5] T (0,0))) :
  ((((((w.setCell ⟨X,0,none⟩ v0).setCell ⟨X,1,none⟩ v1).setCell ⟨X,2,none⟩ v2).setCell ⟨X,3,none⟩ v3).setCell ⟨X,4,none⟩ v4).setCell ⟨X,5,none⟩ v5).heap[X]? = some (.cells #[v0,v1,v2,v3,v4,v5] T (0,0)) /\ Kpt [X] w ((((((w.setCell ⟨X,0,none⟩ v0).setCell ⟨X,1,none⟩ v1).setCell ⟨X,2,none⟩ v2).setCell ⟨X,3,none⟩ v3).setCell ⟨X,4,none⟩ v4).setCell ⟨X,5,none⟩ v5) := by
 have h0 : (w.setCell ⟨X,0,none⟩ v0).heap[X]? = some (.cells #[v0,a1,a2,a3,a4,a5] T (0,0)) := by rw [heap_setCell_same _ X 0 _ _ _ h]; rfl
 have k0 : Kpt [X] w (w.setCell ⟨X,0,none⟩ v0) := Kpt.set _ _ _ _ _ (by simp)
 have h1 : ((w.setCell ⟨X,0,none⟩ v0).setCell ⟨X,1,none⟩ v1).heap[X]? = some (.cells #[v0,v1,a2,a3,a4,a5] T (0,0)) := by rw [heap_setCell_same _ X 1 _ _ _ h0]; rfl
 have k1 : Kpt [X] (w.setCell ⟨X,0,none⟩ v0) ((w.setCell ⟨X,0,none⟩ v0).setCell ⟨X,1,none⟩ v1) := Kpt.set _ _ _ _ _ (by simp)
 have h2 : (((w.setCell ⟨X,0,none⟩ v0).setCell ⟨X,1,none⟩ v1).setCell ⟨X,2,none⟩ v2).heap[X]? = some (.cells #[v0,v1,v2,a3,a4,a5] T (0,0)) := by rw [heap_setCell_same _ X 2 _ _ _ h1]; rfl
 have k2 : Kpt [X] ((w.setCell ⟨X,0,none⟩ v0).setCell ⟨X,1,none⟩ v1) (((w.setCell ⟨X,0,none⟩ v0).setCell ⟨X,1,none⟩ v1).setCell ⟨X,2,none⟩ v2) := Kpt.set _ _ _ _ _ (by simp)
 have h3 : ((((w.setCell ⟨X,0,none⟩ v0).setCell ⟨X,1,none⟩ v1).setCell ⟨X,2,none⟩ v2).setCell ⟨X,3,none⟩ v3).heap[X]? = some (.cells #[v0,v1,v2,v3,a4,a5] T (0,0)) := by rw [heap_setCell_same _ X 3 _ _ _ h2]; rfl
 have k3 : Kpt [X] (((w.setCell ⟨X,0,none⟩ v0).setCell ⟨X,1,none⟩ v1).setCell ⟨X,2,none⟩ v2) ((((w.setCell ⟨X,0,none⟩ v0).setCell ⟨X,1,none⟩ v1).setCell ⟨X,2,none⟩ v2).setCell ⟨X,3,none⟩ v3) := Kpt.set _ _ _ _ _ (by simp)
 have h4 : (((((w.setCell ⟨X,0,none⟩ v0).setCell ⟨X,1,none⟩ v1).setCell ⟨X,2,none⟩ v2).setCell ⟨X,3,none⟩ v3).setCell ⟨X,4,none⟩ v4).heap[X]? = some (.cells #[v0,v1,v2,v3,v4,a5] T (0,0)) := by rw [heap_setCell_same _ X 4 _ _ _ h3]; rfl
 have k4 : Kpt [X] ((((w.setCell ⟨X,0,none⟩ v0).setCell ⟨X,1,none⟩ v1).setCell ⟨X,2,none⟩ v2).setCell ⟨X,3,none⟩ v3) (((((w.setCell ⟨X,0,none⟩ v0).setCell ⟨X,1,none⟩ v1).setCell ⟨X,2,none⟩ v2).setCell ⟨X,3,none⟩ v3).setCell ⟨X,4,none⟩ v4) := Kpt.set _ _ _ _ _ (by simp)
 have h5 : ((((((w.setCell ⟨X,0,none⟩ v0).setCell ⟨X,1,none⟩ v1).setCell ⟨X,2,none⟩ v2).setCell ⟨X,3,none⟩ v3).setCell ⟨X,4,none⟩ v4).setCell ⟨X,5,none⟩ v5).heap[X]? = some (.cells #[v0,v1,v2,v3,v4,v5] T (0,0)) := by rw [heap_setCell_same _ X 5 _ _ _ h4]; rfl
 have k5 : Kpt [X] (((((w.setCell ⟨X,0,none⟩ v0).setCell ⟨X,1,none⟩ v1).setCell ⟨X,2,none⟩ v2).setCell ⟨X,3,none⟩ v3).setCell ⟨X,4,none⟩ v4) ((((((w.setCell ⟨X,0,none⟩ v0).setCell ⟨X,1,none⟩ v1).setCell ⟨X,2,none⟩ v2).setCell ⟨X,3,none⟩ v3).setCell ⟨X,4,none⟩ v4).setCell ⟨X,5,none⟩ v5) := Kpt.set _ _ _ _ _ (by simp)
 exact ⟨h5,(Kpt.trans (Kpt.trans (Kpt.trans (Kpt.trans (Kpt.trans k0 k1 (fun _ h => .inl h)) k2 (fun _ h => .inl h)) k3 (fun _ h => .inl h)) k4 (fun _ h => .inl h)) k5 (fun _ h => .inl h))⟩
theorem set9 {w : World} {X : Nat} {T : TypeId} {a0 a1 a2 a3 a4 a5 a6 a7 a8 v0 v1 v2 v3 v4 v5 v6 v7 v8 : Value} (h : w.heap[X]? = some (.cells #[a0,a1,a2,a3,a4,a5,a6,a7,a8] T (0,0))) :
  (((((((((w.setCell ⟨X,0,none⟩ v0).setCell ⟨X,1,none⟩ v1).setCell ⟨X,2,none⟩ v2).setCell ⟨X,3,none⟩ v3).setCell ⟨X,4,none⟩ v4).setCell ⟨X,5,none⟩ v5).setCell ⟨X,6,none⟩ v6).setCell ⟨X,7,none⟩ v7).setCell ⟨X,8,none⟩ v8).heap[X]? = some (.cells #[v0,v1,v2,v3,v4,v5,v6,v7,v8] T (0,0)) /\ Kpt [X] w (((((((((w.setCell ⟨X,0,none⟩ v0).setCell ⟨X,1,none⟩ v1).setCell ⟨X,2,none⟩ v2).setCell ⟨X,3,none⟩ v3).setCell ⟨X,4,none⟩ v4).setCell ⟨X,5,none⟩ v5).setCell ⟨X,6,none⟩ v6).setCell ⟨X,7,none⟩ v7).setCell ⟨X,8,none⟩ v8) := by
 have h0 : (w.setCell ⟨X,0,none⟩ v0).heap[X]? = some (.cells #[v0,a1,a2,a3,a4,a5,a6,a7,a8] T (0,0)) := by rw [heap_setCell_same _ X 0 _ _ _ h]; rfl
 have k0 : Kpt [X] w (w.setCell ⟨X,0,none⟩ v0) := Kpt.set _ _ _ _ _ (by simp)
 have h1 : ((w.setCell ⟨X,0,none⟩ v0).setCell ⟨X,1,none⟩ v1).heap[X]? = some (.cells #[v0,v1,a2,a3,a4,a5,a6,a7,a8] T (0,0)) := by rw [heap_setCell_same _ X 1 _ _ _ h0]; rfl
 have k1 : Kpt [X] (w.setCell ⟨X,0,none⟩ v0) ((w.setCell ⟨X,0,none⟩ v0).setCell ⟨X,1,none⟩ v1) := Kpt.set _ _ _ _ _ (by simp)
 have h2 : (((w.setCell ⟨X,0,none⟩ v0).setCell ⟨X,1,none⟩ v1).setCell ⟨X,2,none⟩ v2).heap[X]? = some (.cells #[v0,v1,v2,a3,a4,a5,a6,a7,a8] T (0,0)) := by rw [heap_setCell_same _ X 2 _ _ _ h1]; rfl
 have k2 : Kpt [X] ((w.setCell ⟨X,0,none⟩ v0).setCell ⟨X,1,none⟩ v1) (((w.setCell ⟨X,0,none⟩ v0).setCell ⟨X,1,none⟩ v1).setCell ⟨X,2,none⟩ v2) := Kpt.set _ _ _ _ _ (by simp)
 have h3 : ((((w.setCell ⟨X,0,none⟩ v0).setCell ⟨X,1,none⟩ v1).setCell ⟨X,2,none⟩ v2).setCell ⟨X,3,none⟩ v3).heap[X]? = some (.cells #[v0,v1,v2,v3,a4,a5,a6,a7,a8] T (0,0)) := by rw [heap_setCell_same _ X 3 _ _ _ h2]; rfl
 have k3 : Kpt [X] (((w.setCell ⟨X,0,none⟩ v0).setCell ⟨X,1,none⟩ v1).setCell ⟨X,2,none⟩ v2) ((((w.setCell ⟨X,0,none⟩ v0).setCell ⟨X,1,none⟩ v1).setCell ⟨X,2,none⟩ v2).setCell ⟨X,3,none⟩ v3) := Kpt.set _ _ _ _ _ (by simp)
 have h4 : (((((w.setCell ⟨X,0,none⟩ v0).setCell ⟨X,1,none⟩ v1).setCell ⟨X,2,none⟩ v2).setCell ⟨X,3,none⟩ v3).setCell ⟨X,4,none⟩ v4).heap[X]? = some (.cells #[v0,v1,v2,v3,v4,a5,a6,a7,a8] T (0,0)) := by rw [heap_setCell_same _ X 4 _ _ _ h3]; rfl
 have k4 : Kpt [X] ((((w.setCell ⟨X,0,none⟩ v0).setCell ⟨X,1,none⟩ v1).setCell ⟨X,2,none⟩ v2).setCell ⟨X,3,none⟩ v3) (((((w.setCell ⟨X,0,none⟩ v0).setCell ⟨X,1,none⟩ v1).setCell ⟨X,2,none⟩ v2).setCell ⟨X,3,none⟩ v3).setCell ⟨X,4,none⟩ v4) := Kpt.set _ _ _ _ _ (by simp)
 have h5 : ((((((w.setCell ⟨X,0,none⟩ v0).setCell ⟨X,1,none⟩ v1).setCell ⟨X,2,none⟩ v2).setCell ⟨X,3,none⟩ v3).setCell ⟨X,4,none⟩ v4).setCell ⟨X,5,none⟩ v5).heap[X]? = some (.cells #[v0,v1,v2,v3,v4,v5,a6,a7,a8] T (0,0)) := by rw [heap_setCell_same _ X 5 _ _ _ h4]; rfl
 have k5 : Kpt [X] (((((w.setCell ⟨X,0,none⟩ v0).setCell ⟨X,1,none⟩ v1).setCell ⟨X,2,none⟩ v2).setCell ⟨X,3,none⟩ v3).setCell ⟨X,4,none⟩ v4) ((((((w.setCell ⟨X,0,none⟩ v0).setCell ⟨X,1,none⟩ v1).setCell ⟨X,2,none⟩ v2).setCell ⟨X,3,none⟩ v3).setCell ⟨X,4,none⟩ v4).setCell ⟨X,5,none⟩ v5) := Kpt.set _ _ _ _ _ (by simp)
 have h6 : (((((((w.setCell ⟨X,0,none⟩ v0).setCell ⟨X,1,none⟩ v1).setCell ⟨X,2,none⟩ v2).setCell ⟨X,3,none⟩ v3).setCell ⟨X,4,none⟩ v4).setCell ⟨X,5,none⟩ v5).setCell ⟨X,6,none⟩ v6).heap[X]? = some (.cells #[v0,v1,v2,v3,v4,v5,v6,a7,a8] T (0,0)) := by rw [heap_setCell_same _ X 6 _ _ _ h5]; rfl
 have k6 : Kpt [X] ((((((w.setCell ⟨X,0,none⟩ v0).setCell ⟨X,1,none⟩ v1).setCell ⟨X,2,none⟩ v2).setCell ⟨X,3,none⟩ v3).setCell ⟨X,4,none⟩ v4).setCell ⟨X,5,none⟩ v5) (((((((w.setCell ⟨X,0,none⟩ v0).setCell ⟨X,1,none⟩ v1).setCell ⟨X,2,none⟩ v2).setCell ⟨X,3,none⟩ v3).setCell ⟨X,4,none⟩ v4).setCell ⟨X,5,none⟩ v5).setCell ⟨X,6,none⟩ v6) := Kpt.set _ _ _ _ _ (by simp)
 have h7 : ((((((((w.setCell ⟨X,0,none⟩ v0).setCell ⟨X,1,none⟩ v1).setCell ⟨X,2,none⟩ v2).setCell ⟨X,3,none⟩ v3).setCell ⟨X,4,none⟩ v4).setCell ⟨X,5,none⟩ v5).setCell ⟨X,6,none⟩ v6).setCell ⟨X,7,none⟩ v7).heap[X]? = some (.cells #[v0,v1,v2,v3,v4,v5,v6,v7,a8] T (0,0)) := by rw [heap_setCell_same _ X 7 _ _ _ h6]; rfl
 have k7 : Kpt [X] (((((((w.setCell ⟨X,0,none⟩ v0).setCell ⟨X,1,none⟩ v1).setCell ⟨X,2,none⟩ v2).setCell ⟨X,3,none⟩ v3).setCell ⟨X,4,none⟩ v4).setCell ⟨X,5,none⟩ v5).setCell ⟨X,6,none⟩ v6) ((((((((w.setCell ⟨X,0,none⟩ v0).setCell ⟨X,1,none⟩ v1).setCell ⟨X,2,none⟩ v2).setCell ⟨X,3,none⟩ v3).setCell ⟨X,4,none⟩ v4).setCell ⟨X,5,none⟩ v5).setCell ⟨X,6,none⟩ v6).setCell ⟨X,7,none⟩ v7) := Kpt.set _ _ _ _ _ (by simp)
 have h8 : (((((((((w.setCell ⟨X,0,none⟩ v0).setCell ⟨X,1,none⟩ v1).setCell ⟨X,2,none⟩ v2).setCell ⟨X,3,none⟩ v3).setCell ⟨X,4,none⟩ v4).setCell ⟨X,5,none⟩ v5).setCell ⟨X,6,none⟩ v6).setCell ⟨X,7,none⟩ v7).setCell ⟨X,8,none⟩ v8).heap[X]? = some (.cells #[v0,v1,v2,v3,v4,v5,v6,v7,v8] T (0,0)) := by rw [heap_setCell_same _ X 8 _ _ _ h7]; rfl
 have k8 : Kpt [X] ((((((((w.setCell ⟨X,0,none⟩ v0).setCell ⟨X,1,none⟩ v1).setCell ⟨X,2,none⟩ v2).setCell ⟨X,3,none⟩ v3).setCell ⟨X,4,none⟩ v4).setCell ⟨X,5,none⟩ v5).setCell ⟨X,6,none⟩ v6).setCell ⟨X,7,none⟩ v7) (((((((((w.setCell ⟨X,0,none⟩ v0).setCell ⟨X,1,none⟩ v1).setCell ⟨X,2,none⟩ v2).setCell ⟨X,3,none⟩ v3).setCell ⟨X,4,none⟩ v4).setCell ⟨X,5,none⟩ v5).setCell ⟨X,6,none⟩ v6).setCell ⟨X,7,none⟩ v7).setCell ⟨X,8,none⟩ v8) := Kpt.set _ _ _ _ _ (by simp)
 exact ⟨h8,(Kpt.trans (Kpt.trans (Kpt.trans (Kpt.trans (Kpt.trans (Kpt.trans (Kpt.trans (Kpt.trans k0 k1 (fun _ h => .inl h)) k2 (fun _ h => .inl h)) k3 (fun _ h => .inl h)) k4 (fun _ h => .inl h)) k5 (fun _ h => .inl h)) k6 (fun _ h => .inl h)) k7 (fun _ h => .inl h)) k8 (fun _ h => .inl h))⟩
theorem OwnX.slice {α : Type} {sz : Nat} {T : TypeId} {P : Pv α} {w : World} {B : Nat} {v : Value} {xs : List α} (h : OwnX sz T P w B v xs) : ∃ p n c,v = .slice p n c := by
 obtain ⟨cs,h1,_⟩ := h
 rcases h1.2 with ⟨rfl,hn⟩ | ⟨g,cap,cur,rfl,hb,hg,hle,_⟩
 ·exact ⟨_,_,_,rfl⟩
 ·exact ⟨_,_,_,rfl⟩
end Go.Proofs.YtofnbapnmhibaaaGreat.A
namespace Go.Proofs.YtofnbapnmhibaaaGreat.A
open Go.RowKit Go.Proofs.YtofnbapnmhibaaaGreat.D Go.Proofs.YtofnbapnmhibaaaGreat.O
def InsAns (x : Ins) (w : World) (e : Ending) (w' : World) : Prop := e = .returned (insV x) /\ Below w.heap.size w w'
theorem one_v (o : Int) (w : World) : Calls Tryz.prog 21 #[.int .i64 o] w (InsAns (iOne o) w) := by
 go_enter Tryz.func21,Tryz.ntmps21
 go_wp2
 refine bodyPost_ret (v := insV (iOne o)) (by simp [results,Tryz.results21,go_sem,insV,iOne,es]) rfl ⟨rfl,?_⟩
 exact (Below.refl _ _).alloc (Nat.le_refl _) _
theorem at_v (o k : Int) (w : World) : Calls Tryz.prog 22 #[.int .i64 o,.int .i64 k] w (InsAns (iAt o k) w) := by
 go_enter Tryz.func22,Tryz.ntmps22
 go_wp2
 refine bodyPost_ret (v := insV (iAt o k)) (by simp [results,Tryz.results22,go_sem,insV,iAt,es]) rfl ⟨rfl,?_⟩
 exact (Below.refl _ _).alloc (Nat.le_refl _) _
theorem num_v (n : Int) (w : World) (hn : -2147483648 <= n /\ n <= 2147483647) : Calls Tryz.prog 30 #[.int .i64 n] w (InsAns (iNum n) w) := by
 go_enter Tryz.func30,Tryz.ntmps30
 go_wp2
 refine bodyPost_ret (v := insV (iNum n)) (by simp [results,Tryz.results30,go_sem,insV,iNum,es]) rfl ⟨rfl,?_⟩
 exact (Below.refl _ _).alloc (Nat.le_refl _) _
theorem str_v (s : ByteArray) (w : World) : Calls Tryz.prog 31 #[.string s] w (InsAns (iStr s) w) := by
 go_enter Tryz.func31,Tryz.ntmps31
 go_wp2
 refine bodyPost_ret (v := insV (iStr s)) (by simp [results,Tryz.results31,go_sem,insV,iStr,es]) rfl ⟨rfl,?_⟩
 exact (Below.refl _ _).alloc (Nat.le_refl _) _
theorem of_v (o : Int) (c : ByteArray) (w : World) : Calls Tryz.prog 20 #[.int .i64 o,.string c] w (InsAns (iOf o c) w) := by
 go_enter Tryz.func20,Tryz.ntmps20
 go_wp2
 refine bodyPost_ret (v := insV (iOf o c)) (by simp [results,Tryz.results20,go_sem,insV,iOf,es]) rfl ⟨rfl,?_⟩
 exact (Below.refl _ _).alloc (Nat.le_refl _) _
theorem part_v (o : Int) (c m : ByteArray) (w : World) : Calls Tryz.prog 37 #[.int .i64 o,.string c,.string m] w (InsAns (iPart o c m) w) := by
 go_enter Tryz.func37,Tryz.ntmps37
 go_wp2
 refine bodyPost_ret (v := insV (iPart o c m)) (by simp [results,Tryz.results37,go_sem,insV,iPart,es]) rfl ⟨rfl,?_⟩
 exact (Below.refl _ _).alloc (Nat.le_refl _) _
theorem call_v (o : Int) (c m d : ByteArray) (w : World) : Calls Tryz.prog 36 #[.int .i64 o,.string c,.string m,.string d] w (InsAns (iCall o c m d) w) := by
 go_enter Tryz.func36,Tryz.ntmps36
 go_wp2
 refine bodyPost_ret (v := insV (iCall o c m d)) (by simp [results,Tryz.results36,go_sem,insV,iCall,es]) rfl ⟨rfl,?_⟩
 exact (Below.refl _ _).alloc (Nat.le_refl _) _
def BdP (w : World) (B bb : Nat) (vl vh : Value) (st : BS) : Prop :=
 w.heap[bb]? = some (.cells #[vl,vh] 79 (0,0)) /\ B <= bb /\ OwnX 7 31 (sP insC) w B vl st.1 /\ OwnX 4 33 (sP hndC) w B vh st.2 /\
 vl.ownBlock ≠ some bb /\ vh.ownBlock ≠ some bb /\ (∀ g,vl.ownBlock = some g -> vh.ownBlock ≠ some g)
def Bd (w : World) (B bb : Nat) (st : BS) : Prop := ∃ vl vh,BdP w B bb vl vh st
theorem OwnX.kptS {α : Type} {sz : Nat} {T : TypeId} {c : α -> List Value} {w w' : World} {B : Nat} {v : Value} {xs : List α} {S : List Nat} (h : OwnX sz T (sP c) w B v xs) (hk : Kpt S w w') (hS : ∀ g,v.ownBlock = some g -> g ∉ S) : OwnX sz T (sP c) w' B v xs := by
 obtain ⟨cs,h1,h2⟩ := h
 have hlt := World.ownsRow.lt h1
 refine ⟨cs,⟨h1.1,?_⟩,h2⟩
 rcases h1.2 with hn | ⟨g,cap,cur,rfl,hb,hg,rest⟩
 ·exact .inl hn
 ·exact .inr ⟨g,cap,cur,rfl,hb,by rw [hk.2 g (hlt g rfl).2 (hS g rfl)]; exact hg,rest⟩
theorem BdP.lt {w : World} {B bb : Nat} {vl vh : Value} {st : BS} (h : BdP w B bb vl vh st) : bb < w.heap.size := (Array.getElem?_eq_some_iff.1 h.1).1
theorem BdP.cells {w : World} {B bb : Nat} {vl vh : Value} {st : BS} (h : BdP w B bb vl vh st) : bb < w.heap.size /\ w.cell? ⟨bb,0,none⟩ = some vl /\ w.cell? ⟨bb,1,none⟩ = some vh /\ w.frozen? ⟨bb,0,none⟩ = false /\ w.frozen? ⟨bb,1,none⟩ = false := by
 refine ⟨h.lt,?_,?_,?_,?_⟩ <;> simp [World.cell?,World.frozen?,h.1]
theorem BdP.below {w w' : World} {B bb : Nat} {vl vh : Value} {st : BS} (h : BdP w B bb vl vh st) (hb : Below w.heap.size w w') : BdP w' B bb vl vh st := by
 have hlt := h.lt
 obtain ⟨h1,h2,h3,h4,h5,h6,h7⟩ := h
 have hk : Kpt [] w w' := .of_below hb
 exact ⟨(hb.block bb hlt).trans h1,h2,h3.kptS hk (fun _ _ => by simp),h4.kptS hk (fun _ _ => by simp),h5,h6,h7⟩
theorem Bd.below {w w' : World} {B bb : Nat} {st : BS} (h : Bd w B bb st) (hb : Below w.heap.size w w') : Bd w' B bb st := by
 obtain ⟨vl,vh,h⟩ := h
 exact ⟨vl,vh,h.below hb⟩
def Built (B bb : Nat) (st : BS) (w : World) (e : Ending) (w' : World) : Prop := e = .returned (.tuple #[]) /\ Bd w' B bb st /\ Below B w w'
theorem rdX_lits {α : Type} {sz : Nat} {c : α -> List Value} (hsz : ∀ x,(c x).length = sz) (w : World) (ys : List α) (cs : Array Value) (T : TypeId) (h : cs.toList = ys.flatMap c) :
  RdX sz (sP c) anyB (w.alloc (.cells cs T)) (.slice (some ⟨w.heap.size,0,none⟩) ys.length ys.length) ys := by
 refine ⟨_,_,rfl,Nat.le_refl _,(fun h => by cases h),.inr ⟨_,_,rfl,trivial,by simp,fun i x hx => ⟨_,rfl,fun j u hu => ?_⟩⟩⟩
 have key : ∀ (l : List α) (i : Nat),l[i]? = some x -> (l.flatMap c)[i * sz + j]? = some u := by
  intro l
  induction l with
  | nil => intro i h; simp at h
  | cons a l ih =>
   intro i hi
   rw [List.flatMap_cons]
   cases i with
   | zero =>
    simp only [List.getElem?_cons_zero,Option.some.injEq] at hi
    subst hi
    rw [Nat.zero_mul,Nat.zero_add,List.getElem?_append_left (List.getElem?_eq_some_iff.1 hu).1]
    exact hu
   | succ i =>
    rw [List.getElem?_append_right (by rw [hsz,Nat.succ_mul]; omega),hsz,Nat.succ_mul,show i * sz + sz + j - sz = i * sz + j by omega]
    exact ih i (by simpa using hi)
 have := key ys i hx
 rw [<- h] at this
 rw [Array.getElem?_toList] at this
 simp [Nat.zero_add,this]
theorem insC_len (x : Ins) : (insC x).length = 7 := rfl
theorem BdP.setL {w w1 : World} {B bb : Nat} {vl vh v' : Value} {st : BS} {L : List Ins} (h : BdP w B bb vl vh st) (hB : B <= w.heap.size) (ho : OwnX 7 31 (sP insC) w1 B v' L) (hg : w.grownBy w1 vl.ownBlock) (hl : v'.ownBlock = vl.ownBlock ∨ v'.ownBlock = some w.heap.size) :
  bb < w1.heap.size /\ w1.cell? ⟨bb,0,none⟩ = some vl /\ w1.frozen? ⟨bb,0,none⟩ = false /\ Bd (w1.setCell ⟨bb,0,none⟩ v') B bb (L,st.2) /\ Below B w (w1.setCell ⟨bb,0,none⟩ v') := by
 have hlt := h.lt
 obtain ⟨h1,h2,h3,h4,h5,h6,h7⟩ := h
 have hw1 : w1.heap[bb]? = some (.cells #[vl,vh] 79 (0,0)) := by rw [hg.block bb hlt (fun e => h5 e.symm)]; exact h1
 have k1 : Kpt vl.ownBlock.toList w w1 := .of_grown hg (fun g e => .inl (by rw [e]; simp))
 have k2 : Kpt [bb] w1 (w1.setCell ⟨bb,0,none⟩ v') := Kpt.set _ _ _ _ _ (by simp)
 have hne : v'.ownBlock ≠ some bb := by
  rcases hl with e | e
  ·rw [e]; exact h5
  ·rw [e]; simp only [ne_eq,Option.some.injEq]; omega
 refine ⟨Nat.lt_of_lt_of_le hlt hg.size,by simp [World.cell?,hw1],by simp [World.frozen?,hw1],⟨v',vh,?_,h2,ho.kptS k2 (fun g e => by simp; rintro rfl; exact hne e),(h4.kptS k1 (fun g e => by simp; intro e'; exact h7 g e' e)).kptS k2 (fun g e => by simp; rintro rfl; exact h6 e),hne,h6,fun g e => ?_⟩,?_⟩
 ·rw [heap_setCell_same w1 bb 0 _ _ _ hw1]; rfl
 ·rcases hl with e' | e'
  ·exact h7 g (e' ▸ e)
  ·rw [e'] at e
   cases e
   intro e2
   have := (h4.lt _ e2).2
   omega
 ·have b1 : Below B w w1 := ⟨hg.os,hg.tape,hg.output,hg.size,fun k hk => hg.block k (by omega) (fun e => by have := (h3.lt k e.symm).1; omega)⟩
  exact b1.trans (k2.below (fun x hx => by simp at hx; omega) (Nat.le_trans hB hg.size))
theorem wp_appM {α : Type} {sz bytes : Nat} {T TS : TypeId} {z : Value} (hI : Inf T TS sz bytes z) {c : α -> List Value} (hS : Shape (sP c) sz) {w : World} {ops : Array Oper} {rest : List Oper} {o : Oper} {a : Act} {Q : Exit -> Act -> World -> Prop} (hgd : o.guard = none) (s x : Operand)
  (ho : o.op = .call { callee := .builtin .append,args := #[s,x],argTypes := #[TS,TS] })
  (B : Nat) (v : Value) (xs : List α) (hs : a.eval s = v) (hown : OwnX sz T (sP c) w B v xs) (g off n cap : Nat) (ys : List α) (hx : a.eval x = .slice (some ⟨g,off,none⟩) n cap) (hr : RdX sz (sP c) anyB w (.slice (some ⟨g,off,none⟩) n cap) ys)
  (hb : xs.length + ys.length <= 1000000) (hbase : B <= w.heap.size)
  (h : ∀ v' w',OwnX sz T (sP c) w' B v' (xs ++ ys) -> w.grownBy w' v.ownBlock -> (v'.ownBlock = v.ownBlock ∨ v'.ownBlock = some w.heap.size) -> wpList Tryz.prog ops Q rest (a.put o.dst v') w') :
  wpList Tryz.prog ops Q (o :: rest) a w := by
 refine wpList_plain hgd fun K hK => ?_
 obtain ⟨p',cap',e,h1,h2,h3⟩ := hr
 simp only [Value.slice.injEq] at e
 obtain ⟨rfl,rfl,rfl⟩ := e
 obtain ⟨v',w',hrun,g1,g2,g4⟩ := run_appX hI (sP.grow c) hS w B v xs ys hown ⟨g,off,none⟩ cap (fun i u hu => by
  rcases h3 with rfl | ⟨b,off',e,_,_,hc⟩
  ·simp at hu
  ·simp only [Option.some.injEq,Addr.mk.injEq,and_true] at e
   obtain ⟨rfl,rfl⟩ := e
   obtain ⟨vs,hv,hcell⟩ := hc i u hu
   refine ⟨vs,hv,fun j u hu => ?_⟩
   have := hcell j u hu
   unfold Addr.add
   split
   ·rename_i h0
    rw [show g = g from rfl] at this
    have e0 : off + i * sz + j = off := by omega
    rw [e0] at this
    exact this
   ·rw [Nat.add_assoc] at this
    exact this) hb hbase o.type
 unfold Oper.wp execOp
 simp only [ho,resolve,invoke,builtin,Sem.run_bind,Sem.run_pure,Result.andThen_ok,List.map_toArray,List.map_cons,List.map_nil,hs,hx]
 simp only [hrun]
 exact hK _ _ (h v' w' g1 g2 g4)
theorem add_b (B bb : Nat) (st : BS) (g n cap : Nat) (ys : List Ins) (w : World) (h : Bd w B bb st) (hB : B <= w.heap.size) (hr : RdX 7 (sP insC) anyB w (.slice (some ⟨g,0,none⟩) n cap) ys) (hl : st.1.length + ys.length <= 1000000) :
  Calls Tryz.prog 29 #[.pointer (some ⟨bb,0,none⟩),.slice (some ⟨g,0,none⟩) n cap] w (Built B bb (bAdd ys st) w) := by
 obtain ⟨vl,vh,h⟩ := h
 obtain ⟨q1,c0,c1,f0,f1⟩ := h.cells
 have HO := hid h.2.2.1
 have HR := hid hr
 have HH := hid h
 clear h hr
 go_enter Tryz.func29,Tryz.ntmps29
 go_wp2_with (at_builtin; refine wp_appM inf_ins shape_ins rfl _ _ rfl B vl st.1 rfl HO.out g 0 n cap ys rfl HR.out hl hB ?_)
 intro v2 w2 ho2 hg2 hl2
 obtain ⟨d0,d1,d2,d3,d4⟩ := HH.out.setL hB ho2 hg2 hl2
 obtain ⟨p2,n2,cc2,hv2⟩ := ho2.slice
 subst hv2
 clear ho2 hg2 hl2
 go_wp2_with fail
 exact bodyPost_end (results_none rfl _ _ _) rfl ⟨rfl,d3,d4⟩
end Go.Proofs.YtofnbapnmhibaaaGreat.A
