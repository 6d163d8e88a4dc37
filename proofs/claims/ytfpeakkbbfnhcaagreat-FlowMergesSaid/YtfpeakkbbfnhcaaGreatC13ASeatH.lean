/- Texts that the proof is made of, joined. No condition. -/
import Derived.Test.YtfpeakkbbfnhcaaGreatC135
import Derived.Deep.DeepCutAuto
import Derived.Test.YtfpeakkbbfnhcaaGreatC13H
set_option linter.unusedVariables false
set_option linter.unusedSimpArgs false
set_option maxRecDepth 100000
set_option maxHeartbeats 16000000
namespace Go.Proofs.YtfpeakkbbfnhcaaGreat.A
open Go.RowKit Go.Proofs.YtfpeakkbbfnhcaaGreat.D Go.Proofs.YtfpeakkbbfnhcaaGreat.O
theorem below_al (w : World) (o : Obj) : Below w.heap.size w (w.alloc o) := (Below.refl _ _).alloc (Nat.le_refl _) _
theorem snip_len (k : Nat) (n : Int) (st : BS) : (snip k n st).1.length <= st.1.length + 16 /\ (snip k n st).2.length <= st.2.length + 1 := by
 unfold snip
 split <;> simp [bAdd,bTry,bSet]
theorem roundS_len (a b : Nat) (st : BS) : (roundS a b st).1.length <= st.1.length + 18 /\ (roundS a b st).2.length <= st.2.length + 1 := by
 have := snip_len (a % 40) b st
 unfold roundS
 split
 ·simp only [bAdd,List.length_append,List.length_cons,List.length_nil]
  omega
 ·omega
theorem drop2 {L : List Nat} {i a b : Nat} (ha : L[i]? = some a) (hb : L[i + 1]? = some b) : L.drop i = a :: b :: L.drop (i + 2) := by
 obtain ⟨h1,h2⟩ := List.getElem?_eq_some_iff.1 ha
 obtain ⟨h3,h4⟩ := List.getElem?_eq_some_iff.1 hb
 rw [List.drop_eq_getElem_cons h1,h2,List.drop_eq_getElem_cons h3,h4]
theorem rounds_next {L : List Nat} {i a b : Nat} {st st0 : BS} (hi : i % 2 = 0) (h40 : i < 40) (ha : L[i]? = some a) (hb : L[i + 1]? = some b) (h : roundsS (20 - i / 2) (L.drop i) st = roundsS 20 L st0) :
  roundsS (20 - (i + 2) / 2) (L.drop (i + 2)) (roundS a b st) = roundsS 20 L st0 := by
 rw [<- h,drop2 ha hb,show 20 - i / 2 = (20 - (i + 2) / 2) + 1 by omega]
 rfl
theorem rounds_end {L : List Nat} {i : Nat} {st st0 : BS} (hi : i % 2 = 0) (h : roundsS (20 - i / 2) (L.drop i) st = roundsS 20 L st0) (he : L.length <= i + 1 ∨ 40 <= i) : st = roundsS 20 L st0 := by
 rw [<- h]
 rcases he with he | he
 ·have : (L.drop i).length <= 1 := by rw [List.length_drop]; omega
  match hd : L.drop i,this with
  | [],_ => cases (20 - i / 2) <;> rfl
  | [a],_ => cases (20 - i / 2) <;> rfl
 ·rw [show 20 - i / 2 = 0 by omega]
  rfl
def bodyAns (l : List Nat) (w : World) (e : Ending) (w' : World) : Prop :=
 ∃ v1 v2,e = .returned (.tuple #[v1,v2]) /\ OwnX 7 59 (sP insC) w' w.heap.size v1 (bodyS l).1 /\ OwnX 4 68 (sP hndC) w' w.heap.size v2 (bodyS l).2 /\ Below w.heap.size w w'
theorem body_p (P : Nat -> Prop) (hnum : ∀ (B bb : Nat) (st : BS) (w0 w : World),Bs B bb st w0 w -> ∀ k n : Nat,P k -> k < 16 -> n < 256 -> st.1.length <= 50000 -> st.2.length <= 50000 -> Calls Tryz.prog 62 #[.pointer (some ⟨bb,0,none⟩),.int .u8 (k : Int),.int .u8 (n : Int)] w fun e w' => e = .returned (.bool true) /\ Bs B bb (snip k (n : Int) st) w0 w')
  (hno : ∀ (B bb : Nat) (st : BS) (w0 w : World),Bs B bb st w0 w -> ∀ k n : Nat,P k -> 16 <= k -> k < 40 -> Calls Tryz.prog 62 #[.pointer (some ⟨bb,0,none⟩),.int .u8 (k : Int),.int .u8 (n : Int)] w fun e w' => e = .returned (.bool false) /\ Bs B bb st w0 w')
  (hobj : ∀ (B bb : Nat) (st : BS) (w0 w : World),Bs B bb st w0 w -> ∀ k n : Nat,P k -> 16 <= k -> k < 40 -> n < 256 -> st.1.length <= 50000 -> st.2.length <= 50000 -> Calls Tryz.prog 63 #[.pointer (some ⟨bb,0,none⟩),.int .u8 (k : Int),.int .u8 (n : Int)] w fun e w' => e = .returned (.tuple #[]) /\ Bs B bb (snip k (n : Int) st) w0 w')
  (bs : List UInt8) (hP : ∀ b ∈ bs,P (b.toNat % 40)) (v : Value) (w : World) (hr : Rd w v bs) (hl : bs.length <= 1000000) :
  Calls Tryz.prog 22 #[v] w (bodyAns (bs.map fun b => b.toNat) w) := by
 have HNUM := hid hnum
 have HNO := hid hno
 have HOBJ := hid hobj
 have HPB := hid hP
 clear hnum hno hobj hP
 obtain ⟨p,cap,rfl,hcap,hn0,hc0⟩ := id hr
 have HB : Hid (Bs w.heap.size w.heap.size ([],[]) w (w.alloc (.cells #[.slice none 0 0,.slice none 0 0] 130))) := hid
  ⟨⟨_,_,heap_alloc_new _ _,Nat.le_refl _,OwnX.nil _ _ _ _ _,OwnX.nil _ _ _ _ _,(fun h => by cases h),(fun h => by cases h),fun g h => by cases h⟩,below_al _ _,by simp⟩
 have HC := hid hc0
 have HN := hid hn0
 obtain ⟨L,hL⟩ : ∃ L,L = bs.map fun b => b.toNat := ⟨_,rfl⟩
 have HL := hid hL
 obtain ⟨st0,hst⟩ : ∃ s : BS,s = ([iNum 1,iAt 5 0,iStr ⟨#[115]⟩,iAt 5 1,iNum 3,iOne 21,iAt 5 2,iOf 25 ⟨#[65]⟩,iAt 5 3,iOne 3,iAt 5 4],[]) := ⟨_,rfl⟩
 have HST := hid hst
 have hst1 : st0.1.length <= 11 := by rw [hst]; decide
 have hst2 : st0.2.length <= 0 := by rw [hst]; decide
 rw [<- hL]
 clear hr hc0 hn0 hL hst
 go_enter Tryz.func22,Tryz.ntmps22
 go_wp2_with ((first | (go_at_call 27; refine (one_x _ _).mono ?_) | (go_at_call 28; refine (at_x _ _ _).mono ?_) | (go_at_call 60; refine (num_x _ _ (by omega)).mono ?_) | (go_at_call 61; refine (str_x _ _).mono ?_) | (go_at_call 26; refine (of_x _ _ _).mono ?_)); rintro e w' ⟨rfl,hb⟩; (first | replace HB := hid (HB.out.next hb) | replace HB := hid ((HB.out.lit _).next hb)); clear hb)
 refine (add_s HB.out [iNum 1,iAt 5 0,iStr ⟨#[115]⟩,iAt 5 1,iNum 3,iOne 21,iAt 5 2,iOf 25 ⟨#[65]⟩,iAt 5 3,iOne 3,iAt 5 4] _ rfl _ rfl (by simp)).mono ?_
 rintro e w1 ⟨rfl,H1⟩
 rw [show bAdd [iNum 1,iAt 5 0,iStr ⟨#[115]⟩,iAt 5 1,iNum 3,iOne 21,iAt 5 2,iOf 25 ⟨#[65]⟩,iAt 5 3,iOne 3,iAt 5 4] ([],[]) = st0 from HST.out.symm] at H1
 have HB1 := hid H1
 clear H1 HB
 go_wp2_with fail
 go_loopw [5] (fun v wr => ∃ (i : Nat) (st : BS),v = .int .i64 (i : Int) /\ i % 2 = 0 /\ i <= 40 /\ st.1.length <= 11 + 9 * i /\ st.2.length <= i /\ Hid (roundsS (20 - i / 2) (L.drop i) st = roundsS 20 L st0) /\ Hid (Bs w.heap.size w.heap.size st w wr)) (fun v _ => 40 - (intOf v).toNat)
 case atStart => exact ⟨0,st0,rfl,rfl,by omega,by omega,by omega,hid rfl,HB1⟩
 case round =>
  obtain ⟨i,st,rfl,hi2,hi40,hs1,hs2,HE,HB⟩ := hrel
  have hll : L.length = bs.length := by rw [HL.out,List.length_map]
  clear HB1
  by_cases hlt : i + 1 < bs.length /\ i < 40
  ·obtain ⟨h1,h40⟩ := hlt
   have hax : bs[i]? = some bs[i] := List.getElem?_eq_getElem (by omega)
   have hbx : bs[i + 1]? = some bs[i + 1] := List.getElem?_eq_getElem (by omega)
   obtain ⟨⟨g,off,sp⟩,rfl⟩ : ∃ a,p = some a := by
    cases p with
    | none => have := HN.out rfl; omega
    | some a => exact ⟨a,rfl⟩
   obtain rfl : sp = none := by
    have hx := World.cell?_spot (HC.out _ rfl 0 _ (List.getElem?_eq_getElem (show 0 < bs.length by omega)))
    simpa [Addr.add] using hx
   have hca := HC.out _ rfl i _ hax
   have hcb := HC.out _ rfl (i + 1) _ hbx
   rw [Go.WideShapes.add_plain] at hca hcb
   have hgl := World.block_lt_of_cell? _ _ hca
   simp only at hgl
   rw [<- HB.out.2.1.cell (p := ⟨g,_,none⟩) hgl] at hca hcb
   obtain ⟨a,ha⟩ : ∃ a : Nat,a = bs[i].toNat := ⟨_,rfl⟩
   obtain ⟨b,hb⟩ : ∃ b : Nat,b = bs[i + 1].toNat := ⟨_,rfl⟩
   have hca' : wr.cell? ⟨g,off + i,none⟩ = some (.int .u8 (a : Int)) := by rw [hca,ha]; rfl
   have hcb' : wr.cell? ⟨g,off + (i + 1),none⟩ = some (.int .u8 (b : Int)) := by rw [hcb,hb]; rfl
   have ha256 : a < 256 := by rw [ha]; exact bs[i].toNat_lt
   have hb256 : b < 256 := by rw [hb]; exact bs[i + 1].toNat_lt
   have HLA : Hid (L[i]? = some a) := hid (by rw [HL.out,List.getElem?_map,hax,ha]; rfl)
   have HLB : Hid (L[i + 1]? = some b) := hid (by rw [HL.out,List.getElem?_map,hbx,hb]; rfl)
   have HCA : Hid (w.cell? ⟨g,off + i,none⟩ = some (.int .u8 (a : Int))) := hid (by rw [<- HB.out.2.1.cell (p := ⟨g,off + i,none⟩) hgl]; exact hca')
   have HCB : Hid (w.cell? ⟨g,off + (i + 1),none⟩ = some (.int .u8 (b : Int))) := hid (by rw [<- HB.out.2.1.cell (p := ⟨g,off + (i + 1),none⟩) hgl]; exact hcb')
   have hrl := roundS_len a b st
   obtain ⟨hr1,hr2⟩ := hrl
   have HEN := hid (rounds_next hi2 h40 HLA.out HLB.out HE.out)
   obtain ⟨k,hk⟩ : ∃ k : Nat,k = a % 40 := ⟨_,rfl⟩
   have hki : (a : Int) % 40 = (k : Int) := by omega
   have hk40 : k < 40 := by omega
   have hkk : (k = 15 ∨ ¬ a = 255) := by omega
   have HK := hid hk
   have HPK : Hid (P k) := hid (by rw [hk,ha]; exact HPB.out _ (List.getElem_mem _))
   clear hca hcb ha hb hax hbx hk HE hll
   have hl1 : st.1.length <= 50000 := by omega
   have hl2 : st.2.length <= 50000 := by omega
   by_cases hk16 : k < 16
   ·go_wp2_with fail
    refine (HNUM.out _ _ _ _ _ HB.out k b HPK.out hk16 hb256 hl1 hl2).mono ?_
    rintro e w2 ⟨rfl,H1⟩
    have hca2 : w2.cell? ⟨g,off + i,none⟩ = some (.int .u8 (a : Int)) := by rw [H1.2.1.cell (p := ⟨g,off + i,none⟩) hgl]; exact HCA.out
    have hcb2 : w2.cell? ⟨g,off + (i + 1),none⟩ = some (.int .u8 (b : Int)) := by rw [H1.2.1.cell (p := ⟨g,off + (i + 1),none⟩) hgl]; exact HCB.out
    replace HB := hid H1
    clear H1 hca' hcb' hki
    by_cases h255 : a = 255
    ·subst h255
     have HR : Hid (roundS 255 b st = bAdd [iNum (b : Int),iOne 43] (snip k (b : Int) st)) := hid (by rw [HK.out]; rfl)
     have hs3 := (snip_len k (b : Int) st).1
     go_wp2_with ((first | (go_at_call 27; refine (one_x _ _).mono ?_) | (go_at_call 60; refine (num_x _ _ (by omega)).mono ?_)); rintro e w' ⟨rfl,hb⟩; (first | replace HB := hid (HB.out.next hb) | replace HB := hid ((HB.out.lit _).next hb)); clear hb)
     refine (add_s HB.out [iNum (b : Int),iOne 43] _ rfl _ rfl (by simp; omega)).mono ?_
     rintro e w3 ⟨rfl,H1⟩
     have HBF := hid H1
     clear H1 HB hca2 hcb2 hs3
     go_wp2_with fail
     go_roundw
     case rel => exact ⟨i + 2,roundS 255 b st,by go_num,by omega,by omega,by omega,by omega,HEN,by rw [HR.out]; exact HBF⟩
     case measure => simp [intOf]; omega
    ·have HR : Hid (roundS a b st = snip k (b : Int) st) := hid (by rw [HK.out]; unfold roundS; rw [if_neg h255])
     go_wp2_with fail
     go_roundw
     case rel => exact ⟨i + 2,roundS a b st,by go_num,by omega,by omega,by omega,by omega,HEN,by rw [HR.out]; exact HB⟩
     case measure => simp [intOf]; omega
   ·have h255 : ¬ a = 255 := by omega
    have HR : Hid (roundS a b st = snip k (b : Int) st) := hid (by rw [HK.out]; unfold roundS; rw [if_neg h255])
    go_wp2_with fail
    refine (HNO.out _ _ _ _ _ HB.out k b HPK.out (by omega) hk40).mono ?_
    rintro e w2 ⟨rfl,H1⟩
    have hca2 : w2.cell? ⟨g,off + i,none⟩ = some (.int .u8 (a : Int)) := by rw [H1.2.1.cell (p := ⟨g,off + i,none⟩) hgl]; exact HCA.out
    have hcb2 : w2.cell? ⟨g,off + (i + 1),none⟩ = some (.int .u8 (b : Int)) := by rw [H1.2.1.cell (p := ⟨g,off + (i + 1),none⟩) hgl]; exact HCB.out
    replace HB := hid H1
    clear H1 hca' hcb'
    go_wp2_with fail
    refine (HOBJ.out _ _ _ _ _ HB.out k b HPK.out (by omega) hk40 hb256 hl1 hl2).mono ?_
    rintro e w3 ⟨rfl,H1⟩
    have hca3 : w3.cell? ⟨g,off + i,none⟩ = some (.int .u8 (a : Int)) := by rw [H1.2.1.cell (p := ⟨g,off + i,none⟩) hgl]; exact HCA.out
    replace HB := hid H1
    clear H1 hca2 hcb2 hki
    go_wp2_with fail
    go_roundw
    case rel => exact ⟨i + 2,roundS a b st,by go_num,by omega,by omega,by omega,by omega,HEN,by rw [HR.out]; exact HB⟩
    case measure => simp [intOf]; omega
  ·have hend : L.length <= i + 1 ∨ 40 <= i := by omega
   have HST2 := hid (rounds_end hi2 HE.out hend)
   have HF : Hid (bodyS L = bAdd [iOne 40] st) := hid (by rw [HST2.out,HST.out]; rfl)
   clear hend hll
   by_cases hlt1 : i + 1 < bs.length
   ·have hge : ¬ i < 40 := fun h => hlt ⟨hlt1,h⟩
    go_wp2_with (go_at_call 27; refine (one_x _ _).mono ?_; rintro e w' ⟨rfl,hb⟩; (first | replace HB := hid (HB.out.next hb) | replace HB := hid ((HB.out.lit _).next hb)); clear hb)
    refine (add_s HB.out [iOne 40] _ rfl _ rfl (by simp; omega)).mono ?_
    rintro e w3 ⟨rfl,⟨vl,vh,h⟩,h2,h3⟩
    obtain ⟨p1,n1,k1,hv1⟩ := h.2.2.1.slice
    obtain ⟨p2,n2,k2,hv2⟩ := h.2.2.2.1.slice
    subst hv1 hv2
    obtain ⟨q1,c0,c1,f0,f1⟩ := h.cells
    have HH := hid h
    have HZ := hid h2
    clear h h2
    go_wp2_with fail
    go_quiet (fail)
    go_wp2_with fail
    go_ret2
    have hbq : Below w3.heap.size w3 (w3.drewN nq) := below_drewN (Below.refl _ _) _
    have hD := HH.out.below hbq
    exact ⟨_,_,rfl,by rw [HF.out]; exact hD.2.2.1,by rw [HF.out]; exact hD.2.2.2.1,below_drewN HZ.out _⟩
   ·go_wp2_with (go_at_call 27; refine (one_x _ _).mono ?_; rintro e w' ⟨rfl,hb⟩; (first | replace HB := hid (HB.out.next hb) | replace HB := hid ((HB.out.lit _).next hb)); clear hb)
    refine (add_s HB.out [iOne 40] _ rfl _ rfl (by simp; omega)).mono ?_
    rintro e w3 ⟨rfl,⟨vl,vh,h⟩,h2,h3⟩
    obtain ⟨p1,n1,k1,hv1⟩ := h.2.2.1.slice
    obtain ⟨p2,n2,k2,hv2⟩ := h.2.2.2.1.slice
    subst hv1 hv2
    obtain ⟨q1,c0,c1,f0,f1⟩ := h.cells
    have HH := hid h
    have HZ := hid h2
    clear h h2
    go_wp2_with fail
    go_quiet (fail)
    go_wp2_with fail
    go_ret2
    have hbq : Below w3.heap.size w3 (w3.drewN nq) := below_drewN (Below.refl _ _) _
    have hD := HH.out.below hbq
    exact ⟨_,_,rfl,by rw [HF.out]; exact hD.2.2.1,by rw [HF.out]; exact hD.2.2.2.1,below_drewN HZ.out _⟩
theorem body_0 (v : Value) (w : World) (hr : Rd w v []) : Calls Tryz.prog 22 #[v] w (bodyAns [] w) :=
 body_p (fun _ => False) (fun _ _ _ _ _ _ _ _ h => h.elim) (fun _ _ _ _ _ _ _ _ h => h.elim) (fun _ _ _ _ _ _ _ _ h => h.elim) [] (by simp) v w hr (by decide)
end Go.Proofs.YtfpeakkbbfnhcaaGreat.A
