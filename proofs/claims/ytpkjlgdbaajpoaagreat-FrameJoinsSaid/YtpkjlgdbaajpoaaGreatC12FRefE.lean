/- Texts that the proof is made of, joined. No condition. -/
import Derived.Test.YtpkjlgdbaajpoaaGreatC1221
import Derived.Test.YtpkjlgdbaajpoaaGreatC1215
import Derived.Test.YtpkjlgdbaajpoaaGreatC125
import Derived.Deep.DeepCutAuto
import Derived.Deep.CutBlock
import Derived.Test.YtpkjlgdbaajpoaaGreatC12H
set_option linter.unusedVariables false
set_option linter.unusedSimpArgs false
set_option maxRecDepth 100000
set_option maxHeartbeats 16000000
namespace Go.Proofs.YtpkjlgdbaajpoaaGreat.R
open Go.RowKit Go.Proofs.YtpkjlgdbaajpoaaGreat.D Go.Proofs.YtpkjlgdbaajpoaaGreat.O Go.Proofs.YtpkjlgdbaajpoaaGreat.A
def lenO : Option Value -> Nat
 | some (.slice _ n _) => n
 | _ => 0
theorem Entry_12 (c nm : ByteArray) (ret : Ty) (st ab : Bool) (loc : Int) (pp pc ph : Option Addr) (np cp nc cc nh ch : Nat) (P : List Ty) (w : World) (hp : RdX 2 (sP tyC) anyB w (.slice pp np cp) P) (hl : P.length <= 1000) (hloc : loc <= 1000) :
  Calls Tryz.prog 19 #[.string c,.agg #[.string nm,.slice pp np cp,.int .i64 ret.1,.string ret.2,.bool st,.bool ab,.int .i64 loc,.slice pc nc cc,.slice ph nh ch]] w fun e w' => ∃ vg,e = .returned vg /\ RdF w' vg (entryP c P st loc) /\ Below w.heap.size w w' := by
 obtain ⟨_,_,e0,-⟩ := hp.len
 simp only [Value.slice.injEq] at e0
 obtain ⟨rfl,rfl,rfl⟩ := e0
 obtain ⟨r1,r2⟩ := ret
 dsimp only
 obtain ⟨wn,hwn⟩ : ∃ x,x = ((w.alloc (.cells #[.string nm,.slice pp P.length cp,.int .i64 r1,.string r2,.bool st,.bool ab,.int .i64 loc,.slice pc nc cc,.slice ph nh ch] 30)).alloc (.cells #[.bool false,.slice none 0 0,.slice none 0 0] 44)).alloc (.cells #[.bool true,.slice none 0 0,.slice none 0 0] 44) := ⟨_,rfl⟩
 have HB : Hid (Below w.heap.size w wn) := hid (by rw [hwn]; exact al3_b _ _ _ _)
 have HM : Hid (wn.heap[w.heap.size]? = some (.cells #[.string nm,.slice pp P.length cp,.int .i64 r1,.string r2,.bool st,.bool ab,.int .i64 loc,.slice pc nc cc,.slice ph nh ch] 30 (0,0))) := hid (by rw [hwn]; simp only [al_heap,Array.getElem?_push,Array.size_push]; repeat (first | rw [if_pos (by first | trivial | omega)] | rw [if_neg (by omega)]))
 have HR : Hid (wn.heap[w.heap.size + 1]? = some (.cells #[.bool false,.slice none 0 0,.slice none 0 0] 44 (0,0))) := hid (by rw [hwn]; simp only [al_heap,Array.getElem?_push,Array.size_push]; repeat (first | rw [if_pos (by first | trivial | omega)] | rw [if_neg (by omega)]))
 have HO : Hid (wn.heap[w.heap.size + 2]? = some (.cells #[.bool true,.slice none 0 0,.slice none 0 0] 44 (0,0))) := hid (by rw [hwn]; simp only [al_heap,Array.getElem?_push,Array.size_push]; repeat (first | rw [if_pos (by first | trivial | omega)] | rw [if_neg (by omega)]))
 have HGS : Hid (w.heap.size + 3 = wn.heap.size) := hid (by rw [hwn]; simp)
 have HP := hid (rd_kb (rd_own hp) HB.out)
 clear hp
 obtain ⟨l0,hl0⟩ : ∃ z,(if st = true then [] else [((4,c) : Ty)]) = z := ⟨_,rfl⟩
 have HL0 := hid hl0
 have HLL : Hid (l0.length <= 1) := hid (by rw [<- hl0]; split <;> simp)
 clear hl0
 go_enter Tryz.func19,Tryz.ntmps19
 go_upto_region 2 with fail
 rw [<- hwn]
 clear hwn
 obtain ⟨g,hg⟩ : ∃ z,w.heap.size = z := ⟨_,rfl⟩
 rw [hg] at HM HR HO HGS ⊢
 have HG : Hid (w.heap.size = g) := hid hg
 clear hg
 have HSZ : Hid (g + 3 <= wn.heap.size) := hid (by have := HGS.out; omega)
 have HG3 : Hid (wn.heap.size <= g + 3) := hid (by have := HGS.out; omega)
 have HK : Hid (Kpt [g + 2] wn wn) := hid (Kpt.refl _ _)
 have HM0 := HM
 have HR0 := HR
 have HSZ0 := HSZ
 clear HGS
 obtain ⟨zl,zc,zf⟩ := boxN HM.out
 have z0 := zc 0 _ rfl
 have z1 := zc 1 _ rfl
 have z2 := zc 2 _ rfl
 have z3 := zc 3 _ rfl
 have z4 := zc 4 _ rfl
 have z5 := zc 5 _ rfl
 have z6 := zc 6 _ rfl
 have z7 := zc 7 _ rfl
 have z8 := zc 8 _ rfl
 simp only [Nat.zero_add] at z0 z1 z2 z3 z4 z5 z6 z7 z8
 clear zc zf
 go_upto_if 9 with fail
 go_cut [] from 7 to 17 (fun wx => ∃ p n c',Hid (wx.heap[g + 2]? = some (.cells #[.bool true,.slice p n c',.slice none 0 0] 44 (0,0))) /\ Hid (OT wx (g + 3) (.slice p n c') l0) /\ Hid (Kpt [g + 2] wn wx))
 case first =>
  cases st with
  | true =>
   go_wp2_with fail
   go_meet
   case rel => exact ⟨none,0,0,HO,hid (by rw [<- HL0.out]; exact OwnX.nil _ _ _ _ _),HK⟩
  | false =>
   have HOL : Hid (OT wn.drew (g + 3) (.slice none 0 0) ([] : List Ty)) := hid (OwnX.nil _ _ _ _ _)
   clear z0 z1 z2 z3 z4 z5 z6 z7 z8 zl
   go_upto_region 3 with fail
   replace HM : Hid (wn.drew.heap[g]? = _) := hid HM.out
   replace HR : Hid (wn.drew.heap[g + 1]? = _) := hid HR.out
   replace HO : Hid (wn.drew.heap[g + 2]? = _) := hid HO.out
   replace HK := hid HK.out.drew
   replace HSZ : Hid (_ <= wn.drew.heap.size) := hid HSZ.out
   refine wp_region_held_drew (S := fun _ => True) (by kernel_rfl) trivial (fun hh => ?_)
   refine tkA 0 _ hh ?_
   try go_frame
   refine tkA 2 _ hh ?_
   try go_frame
   refine rdH [1,3] ?_
   refine AllReadyH.cons (o := _) (by simp only [List.getElem?_toArray,List.getElem?_cons_succ,List.getElem?_cons_zero]; rfl) (fun KX hKX => ?_) ?_
   ·clear hh
    obtain ⟨ul,uc,uf⟩ := boxN HO.out
    have u0 := uc 0 _ rfl
    have u1 := uc 1 _ rfl
    have u2 := uc 2 _ rfl
    simp only [Nat.zero_add] at u0 u1 u2
    clear uc uf
    go_simp
    clear ul u0 u1 u2
    refine hKX.out _ _ trivial (fun hh => ?_)
    clear hKX KX
    try go_frame
    refine rdH [3] ?_
    refine AllReadyH.cons (o := _) (by simp only [List.getElem?_toArray,List.getElem?_cons_succ,List.getElem?_cons_zero]; rfl) (fun KX hKX => ?_) AllReadyH.nil
    clear hh
    go_simp
    refine (ref_12 c _).mono ?_
    rintro e wa ⟨rfl,hbn⟩
    replace HM := hid (blk_b HM.out hbn)
    replace HR := hid (blk_b HR.out hbn)
    replace HO := hid (blk_b HO.out hbn)
    replace HOL := hid (HOL.out.kptS (.of_below hbn : Kpt [] _ _) (fun _ _ => by simp))
    replace HK := hid (HK.out.trans (.of_below hbn : Kpt [g + 2] _ _) (fun _ h => .inl h))
    replace HSZ := hid (Nat.le_trans HSZ.out hbn.size)
    clear hbn
    refine hKX.out _ _ trivial (fun hh => ?_)
    clear hKX KX
    try go_frame
    refine rdH [4] ?_
    refine AllReadyH.cons (o := _) (by simp only [List.getElem?_toArray,List.getElem?_cons_succ,List.getElem?_cons_zero]; rfl) (fun KX hKX => ?_) AllReadyH.nil
    clear hh
    go_simp
    have hsrc := rdX_lit1 (sz := 2) (c := tyC) (fun _ => rfl) wa ((4,c) : Ty) #[.int .i64 4,.string c] 26 rfl
    have hbn := below_alR wa (.cells #[.int .i64 4,.string c] 26)
    have HSRC := hid hsrc
    clear hsrc
    obtain ⟨wl,hwl⟩ : ∃ z,z = wa.alloc (.cells #[.int .i64 4,.string c] 26) := ⟨_,rfl⟩
    replace HM := hid (blk_b HM.out hbn)
    replace HR := hid (blk_b HR.out hbn)
    replace HO := hid (blk_b HO.out hbn)
    replace HOL := hid (HOL.out.kptS (.of_below hbn : Kpt [] _ _) (fun _ _ => by simp))
    replace HK := hid (HK.out.trans (.of_below hbn : Kpt [g + 2] _ _) (fun _ h => .inl h))
    replace HSZ := hid (Nat.le_trans HSZ.out hbn.size)
    rw [<- hwl] at HM HR HO HOL HK HSZ HSRC ⊢
    clear hwl hbn
    refine hKX.out _ _ trivial (fun hh => ?_)
    clear hKX KX
    try go_frame
    refine rdH [5] ?_
    refine AllReadyH.cons (o := _) (by simp only [List.getElem?_toArray,List.getElem?_cons_succ,List.getElem?_cons_zero]; rfl) (fun KX hKX => ?_) AllReadyH.nil
    clear hh
    refine step_appM inf_typ shape_typ (by rfl) _ _ (by rfl) (g + 3) _ ([] : List Ty) (by rfl) HOL.out _ 0 1 1 [(4,c)] (by rfl) HSRC.out (by simp) HSZ.out ?_
    intro v6 w6 ho6 hg6 hl6
    obtain ⟨p6,n6,c6,rfl⟩ := ho6.slice
    obtain ⟨_,_,e6,-⟩ := (ho6.rd (sP.grow _)).len
    simp only [Value.slice.injEq] at e6
    obtain ⟨rfl,rfl,rfl⟩ := e6
    have hol := fun b e => (HOL.out.lt b e).1
    have hkk := Kpt.of_grown (S := ((Value.slice none 0 0).ownBlock).toList) hg6 (fun b e => .inl (by rw [e]; simp))
    have hmm : ∀ b,b ∈ ((Value.slice none 0 0).ownBlock).toList -> g + 3 <= b := fun b hb => hol b (by simpa using hb)
    replace HM := hid (blk_kl HM.out hkk (fun hb => by have := hmm _ hb; omega))
    replace HR := hid (blk_kl HR.out hkk (fun hb => by have := hmm _ hb; omega))
    replace HO := hid (blk_kl HO.out hkk (fun hb => by have := hmm _ hb; omega))
    replace HSZ := hid (Nat.le_trans HSZ.out hkk.size)
    replace HK := hid (HK.out.trans hkk (fun b hb => .inr (by have := hmm b hb; have := HG3.out; omega)))
    replace HOL := hid ho6
    clear hol hkk hmm ho6 hg6 hl6 HSRC
    refine hKX.out _ _ trivial (fun hh => ?_)
    clear hKX KX
    try go_frame
    refine tkA 6 _ hh ?_
    try go_frame
    refine rdH [7] ?_
    refine AllReadyH.cons (o := _) (by simp only [List.getElem?_toArray,List.getElem?_cons_succ,List.getElem?_cons_zero]; rfl) (fun KX hKX => ?_) AllReadyH.nil
    clear hh
    obtain ⟨ul,uc,uf⟩ := boxN HO.out
    have u0 := uc 0 _ rfl
    have u1 := uc 1 _ rfl
    have u2 := uc 2 _ rfl
    have uu0 := uf 0
    have uu1 := uf 1
    have uu2 := uf 2
    simp only [Nat.zero_add] at u0 u1 u2
    clear uc uf
    go_simp
    clear ul u0 u1 u2 uu0 uu1 uu2
    refine hKX.out _ _ trivial (fun hh => ?_)
    clear hKX KX
    try go_frame
    refine wpAnyH_done (by kernel_rfl) ?_ _
    clear hh
    go_wp2_with fail
    go_meet
    case rel =>
     have k1 : Kpt [g + 2] w6 (w6.setCell ⟨g + 2,1,none⟩ (.slice p6 1 c6)) := Kpt.set _ _ _ _ _ (by simp)
     exact ⟨p6,1,c6,hid (by rw [heap_setCell_same _ _ 1 _ _ _ HO.out]; rfl),hid (by rw [<- HL0.out]; exact HOL.out.kptS k1 (fun b e => by have := (HOL.out.lt b e).1; simp; omega)),hid (HK.out.trans k1 (fun _ h => .inl h))⟩
   refine AllReadyH.cons (o := _) (by simp only [List.getElem?_toArray,List.getElem?_cons_succ,List.getElem?_cons_zero]; rfl) (fun KX hKX => ?_) AllReadyH.nil
   clear hh
   go_simp
   refine (ref_12 c _).mono ?_
   rintro e wa ⟨rfl,hbn⟩
   replace HM := hid (blk_b HM.out hbn)
   replace HR := hid (blk_b HR.out hbn)
   replace HO := hid (blk_b HO.out hbn)
   replace HOL := hid (HOL.out.kptS (.of_below hbn : Kpt [] _ _) (fun _ _ => by simp))
   replace HK := hid (HK.out.trans (.of_below hbn : Kpt [g + 2] _ _) (fun _ h => .inl h))
   replace HSZ := hid (Nat.le_trans HSZ.out hbn.size)
   clear hbn
   refine hKX.out _ _ trivial (fun hh => ?_)
   clear hKX KX
   try go_frame
   refine rdH [1,4] ?_
   refine AllReadyH.cons (o := _) (by simp only [List.getElem?_toArray,List.getElem?_cons_succ,List.getElem?_cons_zero]; rfl) (fun KX hKX => ?_) ?_
   ·clear hh
    obtain ⟨ul,uc,uf⟩ := boxN HO.out
    have u0 := uc 0 _ rfl
    have u1 := uc 1 _ rfl
    have u2 := uc 2 _ rfl
    simp only [Nat.zero_add] at u0 u1 u2
    clear uc uf
    go_simp
    clear ul u0 u1 u2
    refine hKX.out _ _ trivial (fun hh => ?_)
    clear hKX KX
    try go_frame
    refine rdH [4] ?_
    refine AllReadyH.cons (o := _) (by simp only [List.getElem?_toArray,List.getElem?_cons_succ,List.getElem?_cons_zero]; rfl) (fun KX hKX => ?_) AllReadyH.nil
    clear hh
    go_simp
    have hsrc := rdX_lit1 (sz := 2) (c := tyC) (fun _ => rfl) wa ((4,c) : Ty) #[.int .i64 4,.string c] 26 rfl
    have hbn := below_alR wa (.cells #[.int .i64 4,.string c] 26)
    have HSRC := hid hsrc
    clear hsrc
    obtain ⟨wl,hwl⟩ : ∃ z,z = wa.alloc (.cells #[.int .i64 4,.string c] 26) := ⟨_,rfl⟩
    replace HM := hid (blk_b HM.out hbn)
    replace HR := hid (blk_b HR.out hbn)
    replace HO := hid (blk_b HO.out hbn)
    replace HOL := hid (HOL.out.kptS (.of_below hbn : Kpt [] _ _) (fun _ _ => by simp))
    replace HK := hid (HK.out.trans (.of_below hbn : Kpt [g + 2] _ _) (fun _ h => .inl h))
    replace HSZ := hid (Nat.le_trans HSZ.out hbn.size)
    rw [<- hwl] at HM HR HO HOL HK HSZ HSRC ⊢
    clear hwl hbn
    refine hKX.out _ _ trivial (fun hh => ?_)
    clear hKX KX
    try go_frame
    refine rdH [5] ?_
    refine AllReadyH.cons (o := _) (by simp only [List.getElem?_toArray,List.getElem?_cons_succ,List.getElem?_cons_zero]; rfl) (fun KX hKX => ?_) AllReadyH.nil
    clear hh
    refine step_appM inf_typ shape_typ (by rfl) _ _ (by rfl) (g + 3) _ ([] : List Ty) (by rfl) HOL.out _ 0 1 1 [(4,c)] (by rfl) HSRC.out (by simp) HSZ.out ?_
    intro v6 w6 ho6 hg6 hl6
    obtain ⟨p6,n6,c6,rfl⟩ := ho6.slice
    obtain ⟨_,_,e6,-⟩ := (ho6.rd (sP.grow _)).len
    simp only [Value.slice.injEq] at e6
    obtain ⟨rfl,rfl,rfl⟩ := e6
    have hol := fun b e => (HOL.out.lt b e).1
    have hkk := Kpt.of_grown (S := ((Value.slice none 0 0).ownBlock).toList) hg6 (fun b e => .inl (by rw [e]; simp))
    have hmm : ∀ b,b ∈ ((Value.slice none 0 0).ownBlock).toList -> g + 3 <= b := fun b hb => hol b (by simpa using hb)
    replace HM := hid (blk_kl HM.out hkk (fun hb => by have := hmm _ hb; omega))
    replace HR := hid (blk_kl HR.out hkk (fun hb => by have := hmm _ hb; omega))
    replace HO := hid (blk_kl HO.out hkk (fun hb => by have := hmm _ hb; omega))
    replace HSZ := hid (Nat.le_trans HSZ.out hkk.size)
    replace HK := hid (HK.out.trans hkk (fun b hb => .inr (by have := hmm b hb; have := HG3.out; omega)))
    replace HOL := hid ho6
    clear hol hkk hmm ho6 hg6 hl6 HSRC
    refine hKX.out _ _ trivial (fun hh => ?_)
    clear hKX KX
    try go_frame
    refine tkA 6 _ hh ?_
    try go_frame
    refine rdH [7] ?_
    refine AllReadyH.cons (o := _) (by simp only [List.getElem?_toArray,List.getElem?_cons_succ,List.getElem?_cons_zero]; rfl) (fun KX hKX => ?_) AllReadyH.nil
    clear hh
    obtain ⟨ul,uc,uf⟩ := boxN HO.out
    have u0 := uc 0 _ rfl
    have u1 := uc 1 _ rfl
    have u2 := uc 2 _ rfl
    have uu0 := uf 0
    have uu1 := uf 1
    have uu2 := uf 2
    simp only [Nat.zero_add] at u0 u1 u2
    clear uc uf
    go_simp
    clear ul u0 u1 u2 uu0 uu1 uu2
    refine hKX.out _ _ trivial (fun hh => ?_)
    clear hKX KX
    try go_frame
    refine wpAnyH_done (by kernel_rfl) ?_ _
    clear hh
    go_wp2_with fail
    go_meet
    case rel =>
     have k1 : Kpt [g + 2] w6 (w6.setCell ⟨g + 2,1,none⟩ (.slice p6 1 c6)) := Kpt.set _ _ _ _ _ (by simp)
     exact ⟨p6,1,c6,hid (by rw [heap_setCell_same _ _ 1 _ _ _ HO.out]; rfl),hid (by rw [<- HL0.out]; exact HOL.out.kptS k1 (fun b e => by have := (HOL.out.lt b e).1; simp; omega)),hid (HK.out.trans k1 (fun _ h => .inl h))⟩
   refine AllReadyH.cons (o := _) (by simp only [List.getElem?_toArray,List.getElem?_cons_succ,List.getElem?_cons_zero]; rfl) (fun KX hKX => ?_) AllReadyH.nil
   clear hh
   go_simp
   have hsrc := rdX_lit1 (sz := 2) (c := tyC) (fun _ => rfl) wa ((4,c) : Ty) #[.int .i64 4,.string c] 26 rfl
   have hbn := below_alR wa (.cells #[.int .i64 4,.string c] 26)
   have HSRC := hid hsrc
   clear hsrc
   obtain ⟨wl,hwl⟩ : ∃ z,z = wa.alloc (.cells #[.int .i64 4,.string c] 26) := ⟨_,rfl⟩
   replace HM := hid (blk_b HM.out hbn)
   replace HR := hid (blk_b HR.out hbn)
   replace HO := hid (blk_b HO.out hbn)
   replace HOL := hid (HOL.out.kptS (.of_below hbn : Kpt [] _ _) (fun _ _ => by simp))
   replace HK := hid (HK.out.trans (.of_below hbn : Kpt [g + 2] _ _) (fun _ h => .inl h))
   replace HSZ := hid (Nat.le_trans HSZ.out hbn.size)
   rw [<- hwl] at HM HR HO HOL HK HSZ HSRC ⊢
   clear hwl hbn
   refine hKX.out _ _ trivial (fun hh => ?_)
   clear hKX KX
   try go_frame
   refine rdH [1] ?_
   refine AllReadyH.cons (o := _) (by simp only [List.getElem?_toArray,List.getElem?_cons_succ,List.getElem?_cons_zero]; rfl) (fun KX hKX => ?_) AllReadyH.nil
   clear hh
   obtain ⟨ul,uc,uf⟩ := boxN HO.out
   have u0 := uc 0 _ rfl
   have u1 := uc 1 _ rfl
   have u2 := uc 2 _ rfl
   simp only [Nat.zero_add] at u0 u1 u2
   clear uc uf
   go_simp
   clear ul u0 u1 u2
   refine hKX.out _ _ trivial (fun hh => ?_)
   clear hKX KX
   try go_frame
   refine rdH [5] ?_
   refine AllReadyH.cons (o := _) (by simp only [List.getElem?_toArray,List.getElem?_cons_succ,List.getElem?_cons_zero]; rfl) (fun KX hKX => ?_) AllReadyH.nil
   clear hh
   refine step_appM inf_typ shape_typ (by rfl) _ _ (by rfl) (g + 3) _ ([] : List Ty) (by rfl) HOL.out _ 0 1 1 [(4,c)] (by rfl) HSRC.out (by simp) HSZ.out ?_
   intro v6 w6 ho6 hg6 hl6
   obtain ⟨p6,n6,c6,rfl⟩ := ho6.slice
   obtain ⟨_,_,e6,-⟩ := (ho6.rd (sP.grow _)).len
   simp only [Value.slice.injEq] at e6
   obtain ⟨rfl,rfl,rfl⟩ := e6
   have hol := fun b e => (HOL.out.lt b e).1
   have hkk := Kpt.of_grown (S := ((Value.slice none 0 0).ownBlock).toList) hg6 (fun b e => .inl (by rw [e]; simp))
   have hmm : ∀ b,b ∈ ((Value.slice none 0 0).ownBlock).toList -> g + 3 <= b := fun b hb => hol b (by simpa using hb)
   replace HM := hid (blk_kl HM.out hkk (fun hb => by have := hmm _ hb; omega))
   replace HR := hid (blk_kl HR.out hkk (fun hb => by have := hmm _ hb; omega))
   replace HO := hid (blk_kl HO.out hkk (fun hb => by have := hmm _ hb; omega))
   replace HSZ := hid (Nat.le_trans HSZ.out hkk.size)
   replace HK := hid (HK.out.trans hkk (fun b hb => .inr (by have := hmm b hb; have := HG3.out; omega)))
   replace HOL := hid ho6
   clear hol hkk hmm ho6 hg6 hl6 HSRC
   refine hKX.out _ _ trivial (fun hh => ?_)
   clear hKX KX
   try go_frame
   refine tkA 6 _ hh ?_
   try go_frame
   refine rdH [7] ?_
   refine AllReadyH.cons (o := _) (by simp only [List.getElem?_toArray,List.getElem?_cons_succ,List.getElem?_cons_zero]; rfl) (fun KX hKX => ?_) AllReadyH.nil
   clear hh
   obtain ⟨ul,uc,uf⟩ := boxN HO.out
   have u0 := uc 0 _ rfl
   have u1 := uc 1 _ rfl
   have u2 := uc 2 _ rfl
   have uu0 := uf 0
   have uu1 := uf 1
   have uu2 := uf 2
   simp only [Nat.zero_add] at u0 u1 u2
   clear uc uf
   go_simp
   clear ul u0 u1 u2 uu0 uu1 uu2
   refine hKX.out _ _ trivial (fun hh => ?_)
   clear hKX KX
   try go_frame
   refine wpAnyH_done (by kernel_rfl) ?_ _
   clear hh
   go_wp2_with fail
   go_meet
   case rel =>
    have k1 : Kpt [g + 2] w6 (w6.setCell ⟨g + 2,1,none⟩ (.slice p6 1 c6)) := Kpt.set _ _ _ _ _ (by simp)
    exact ⟨p6,1,c6,hid (by rw [heap_setCell_same _ _ 1 _ _ _ HO.out]; rfl),hid (by rw [<- HL0.out]; exact HOL.out.kptS k1 (fun b e => by have := (HOL.out.lt b e).1; simp; omega)),hid (HK.out.trans k1 (fun _ h => .inl h))⟩
 case rest =>
  obtain ⟨p5,n5,c5,HO5,HOL,HK5⟩ := hcut
  have hk5 := HK5.out
  replace HM := hid (blk_k HM.out hk5 (by omega))
  replace HR := hid (blk_k HR.out hk5 (by omega))
  replace HP : Hid (RdX 2 (sP tyC) (fun b => b < w.heap.size) wc _ P) := hid (HP.out.step (sP.grow _) (fun _ h _ => h) (fun b hb hl => hk5.2 b hl (by have := HG.out; simp; omega)) hk5.size)
  replace HSZ := hid (Nat.le_trans HSZ.out hk5.size)
  clear hk5 HO HK
  obtain ⟨yl,yc,yf⟩ := boxN HM.out
  have y0 := yc 0 _ rfl
  have y1 := yc 1 _ rfl
  have y2 := yc 2 _ rfl
  have y3 := yc 3 _ rfl
  have y4 := yc 4 _ rfl
  have y5 := yc 5 _ rfl
  have y6 := yc 6 _ rfl
  have y7 := yc 7 _ rfl
  have y8 := yc 8 _ rfl
  simp only [Nat.zero_add] at y0 y1 y2 y3 y4 y5 y6 y7 y8
  clear yc yf
  obtain ⟨ul,uc,uf⟩ := boxN HO5.out
  have u0 := uc 0 _ rfl
  have u1 := uc 1 _ rfl
  have u2 := uc 2 _ rfl
  simp only [Nat.zero_add] at u0 u1 u2
  clear uc uf
  have hll := HLL.out
  go_wp2_with (at_builtin; refine wp_appF inf_typ shape_typ rfl _ _ rfl (g + 3) _ l0 rfl HOL.out pp _ cp P rfl HP.out (by omega) HSZ.out ?_)
  intro v6 w6 ho6 hg6 hl6
  obtain ⟨p6,n6,c6,rfl⟩ := ho6.slice
  obtain ⟨l1,hl1⟩ : ∃ z,l0 ++ P = z := ⟨_,rfl⟩
  have HL1 := hid hl1
  rw [hl1] at ho6
  have HLE : Hid (l1.length <= 1001) := hid (by rw [<- hl1,List.length_append]; omega)
  obtain ⟨_,_,e6,-⟩ := (ho6.rd (sP.grow _)).len
  simp only [Value.slice.injEq] at e6
  obtain ⟨rfl,rfl,rfl⟩ := e6
  have hol := fun b e => (HOL.out.lt b e).1
  have hkk := Kpt.of_grown (S := ((Value.slice p5 n5 c5).ownBlock).toList) hg6 (fun b e => .inl (by rw [e]; simp))
  have hmm : ∀ b,b ∈ ((Value.slice p5 n5 c5).ownBlock).toList -> g + 3 <= b := fun b hb => hol b (by simpa using hb)
  replace HM := hid (blk_kl HM.out hkk (fun hb => by have := hmm _ hb; omega))
  replace HR := hid (blk_kl HR.out hkk (fun hb => by have := hmm _ hb; omega))
  replace HO5 := hid (blk_kl HO5.out hkk (fun hb => by have := hmm _ hb; omega))
  replace HSZ := hid (Nat.le_trans HSZ.out hkk.size)
  have HK := hid (HK5.out.trans hkk (fun b hb => .inr (by have := hmm b hb; have := HG3.out; omega)))
  replace HOL : Hid (OT w6 (g + 3) (.slice p6 l1.length c6) l1) := hid ho6
  clear hl1 hol hkk hmm ho6 hg6 hl6 HP HK5 hll
  clear yl y0 y1 y2 y3 y4 y5 y6 y7 y8
  clear ul u0 u1 u2
  obtain ⟨ul,uc,uf⟩ := boxN HO5.out
  have u0 := uc 0 _ rfl
  have u1 := uc 1 _ rfl
  have u2 := uc 2 _ rfl
  have uu0 := uf 0
  have uu1 := uf 1
  have uu2 := uf 2
  simp only [Nat.zero_add] at u0 u1 u2
  clear uc uf
  have HOLN := HOL
  go_wp2_with fail
  go_loopw [] (fun wr => ∃ (i : Nat) (p : Option Addr) (cx : Nat),(i : Int) <= 1000 /\ Hid (wr.heap[g + 2]? = some (.cells #[.bool true,.slice p (l1.length + i) cx,.slice none 0 0] 44 (0,0))) /\ Hid (OT wr (g + 3) (.slice p (l1.length + i) cx) (topsL l1 i)) /\ Hid (Kpt [g + 2] wn wr)) (fun wr => loc.toNat - lenO (wr.cell? ⟨g + 2,1,none⟩))
  case atStart =>
   have k1 : Kpt [g + 2] w6 (w6.setCell ⟨g + 2,1,none⟩ (.slice p6 l1.length c6)) := Kpt.set _ _ _ _ _ (by simp)
   exact ⟨0,p6,c6,by omega,hid (by rw [heap_setCell_same _ _ 1 _ _ _ HO5.out]; rfl),hid (by unfold topsL; simpa using HOL.out.kptS k1 (fun b e => by have := (HOL.out.lt b e).1; simp; omega)),hid (HK.out.trans k1 (fun _ h => .inl h))⟩
  case round =>
   obtain ⟨i,p,cx,hi,HO,HOLi,HKi⟩ := hrel
   clear ul u0 u1 u2 uu0 uu1 uu2
   clear HM HR HSZ
   have HM := hid (blk_k HM0.out HKi.out (by omega))
   have HR := hid (blk_k HR0.out HKi.out (by omega))
   have HSZ := hid (Nat.le_trans HSZ0.out HKi.out.size)
   clear HOL HOLN HO5
   have HOL := HOLi
   clear HOLi
   have hms : lenO (wr.cell? ⟨g + 2,1,none⟩) = l1.length + i := by have h := HO.out; simp [World.cell?,h,lenO]
   have HMS := hid hms
   clear hms
   obtain ⟨yl,yc,yf⟩ := boxN HM.out
   have y0 := yc 0 _ rfl
   have y1 := yc 1 _ rfl
   have y2 := yc 2 _ rfl
   have y3 := yc 3 _ rfl
   have y4 := yc 4 _ rfl
   have y5 := yc 5 _ rfl
   have y6 := yc 6 _ rfl
   have y7 := yc 7 _ rfl
   have y8 := yc 8 _ rfl
   simp only [Nat.zero_add] at y0 y1 y2 y3 y4 y5 y6 y7 y8
   clear yc yf
   obtain ⟨ul,uc,uf⟩ := boxN HO.out
   have u0 := uc 0 _ rfl
   have u1 := uc 1 _ rfl
   have u2 := uc 2 _ rfl
   simp only [Nat.zero_add] at u0 u1 u2
   clear uc uf
   have hle := HLE.out
   by_cases hlt : (l1.length : Int) + (i : Int) < loc
   ·have hlt2 : ((l1.length + i : Nat) : Int) < loc := by omega
    replace HK := HKi
    clear HKi
    go_upto_region 6 with fail
    clear yl y0 y1 y2 y3 y4 y5 y6 y7 y8
    clear ul u0 u1 u2
    replace HM : Hid (wr.drew.heap[g]? = _) := hid HM.out
    replace HR : Hid (wr.drew.heap[g + 1]? = _) := hid HR.out
    replace HO : Hid (wr.drew.heap[g + 2]? = _) := hid HO.out
    replace HK := hid HK.out.drew
    replace HSZ : Hid (_ <= wr.drew.heap.size) := hid HSZ.out
    replace HOL : Hid (OT wr.drew _ _ _) := hid HOL.out
    refine wp_region_held_drew (S := fun _ => True) (by kernel_rfl) trivial (fun hh => ?_)
    refine tkA 0 _ hh ?_
    try go_frame
    refine rdH [1,2] ?_
    refine AllReadyH.cons (o := _) (by simp only [List.getElem?_toArray,List.getElem?_cons_succ,List.getElem?_cons_zero]; rfl) (fun KX hKX => ?_) ?_
    ·clear hh
     obtain ⟨ul,uc,uf⟩ := boxN HO.out
     have u0 := uc 0 _ rfl
     have u1 := uc 1 _ rfl
     have u2 := uc 2 _ rfl
     simp only [Nat.zero_add] at u0 u1 u2
     clear uc uf
     go_simp
     clear ul u0 u1 u2
     refine hKX.out _ _ trivial (fun hh => ?_)
     clear hKX KX
     try go_frame
     refine rdH [2] ?_
     refine AllReadyH.cons (o := _) (by simp only [List.getElem?_toArray,List.getElem?_cons_succ,List.getElem?_cons_zero]; rfl) (fun KX hKX => ?_) AllReadyH.nil
     clear hh
     go_simp
     refine (kind_12 7 _).mono ?_
     rintro e wa ⟨rfl,hbn⟩
     replace HM := hid (blk_b HM.out hbn)
     replace HR := hid (blk_b HR.out hbn)
     replace HO := hid (blk_b HO.out hbn)
     replace HOL := hid (HOL.out.kptS (.of_below hbn : Kpt [] _ _) (fun _ _ => by simp))
     replace HK := hid (HK.out.trans (.of_below hbn : Kpt [g + 2] _ _) (fun _ h => .inl h))
     replace HSZ := hid (Nat.le_trans HSZ.out hbn.size)
     clear hbn
     refine hKX.out _ _ trivial (fun hh => ?_)
     clear hKX KX
     try go_frame
     refine rdH [3] ?_
     refine AllReadyH.cons (o := _) (by simp only [List.getElem?_toArray,List.getElem?_cons_succ,List.getElem?_cons_zero]; rfl) (fun KX hKX => ?_) AllReadyH.nil
     clear hh
     go_simp
     have hsrc := rdX_lit1 (sz := 2) (c := tyC) (fun _ => rfl) wa (topT : Ty) #[.int .i64 7,.string ⟨#[]⟩] 26 rfl
     have hbn := below_alR wa (.cells #[.int .i64 7,.string ⟨#[]⟩] 26)
     have HSRC := hid hsrc
     clear hsrc
     obtain ⟨wl,hwl⟩ : ∃ z,z = wa.alloc (.cells #[.int .i64 7,.string ⟨#[]⟩] 26) := ⟨_,rfl⟩
     replace HM := hid (blk_b HM.out hbn)
     replace HR := hid (blk_b HR.out hbn)
     replace HO := hid (blk_b HO.out hbn)
     replace HOL := hid (HOL.out.kptS (.of_below hbn : Kpt [] _ _) (fun _ _ => by simp))
     replace HK := hid (HK.out.trans (.of_below hbn : Kpt [g + 2] _ _) (fun _ h => .inl h))
     replace HSZ := hid (Nat.le_trans HSZ.out hbn.size)
     rw [<- hwl] at HM HR HO HOL HK HSZ HSRC ⊢
     clear hwl hbn
     refine hKX.out _ _ trivial (fun hh => ?_)
     clear hKX KX
     try go_frame
     refine rdH [4] ?_
     refine AllReadyH.cons (o := _) (by simp only [List.getElem?_toArray,List.getElem?_cons_succ,List.getElem?_cons_zero]; rfl) (fun KX hKX => ?_) AllReadyH.nil
     clear hh
     refine step_appM inf_typ shape_typ (by rfl) _ _ (by rfl) (g + 3) _ (topsL l1 i) (by rfl) HOL.out _ 0 1 1 [topT] (by rfl) HSRC.out (by rw [topsL_len]; simp; omega) HSZ.out ?_
     intro v6 w7 ho6 hg6 hl6
     obtain ⟨p7,n7,c7,rfl⟩ := ho6.slice
     rw [topsL_next] at ho6
     obtain ⟨_,_,e6,-⟩ := (ho6.rd (sP.grow _)).len
     simp only [Value.slice.injEq,topsL_len] at e6
     obtain ⟨rfl,rfl,rfl⟩ := e6
     have hol := fun b e => (HOL.out.lt b e).1
     have hkk := Kpt.of_grown (S := ((Value.slice p (l1.length + i) cx).ownBlock).toList) hg6 (fun b e => .inl (by rw [e]; simp))
     have hmm : ∀ b,b ∈ ((Value.slice p (l1.length + i) cx).ownBlock).toList -> g + 3 <= b := fun b hb => hol b (by simpa using hb)
     replace HM := hid (blk_kl HM.out hkk (fun hb => by have := hmm _ hb; omega))
     replace HR := hid (blk_kl HR.out hkk (fun hb => by have := hmm _ hb; omega))
     replace HO := hid (blk_kl HO.out hkk (fun hb => by have := hmm _ hb; omega))
     replace HSZ := hid (Nat.le_trans HSZ.out hkk.size)
     replace HK := hid (HK.out.trans hkk (fun b hb => .inr (by have := hmm b hb; have := HG3.out; omega)))
     replace HOL := hid ho6
     clear hol hkk hmm ho6 hg6 hl6 HSRC
     refine hKX.out _ _ trivial (fun hh => ?_)
     clear hKX KX
     try go_frame
     refine tkA 5 _ hh ?_
     try go_frame
     refine rdH [6] ?_
     refine AllReadyH.cons (o := _) (by simp only [List.getElem?_toArray,List.getElem?_cons_succ,List.getElem?_cons_zero]; rfl) (fun KX hKX => ?_) AllReadyH.nil
     clear hh
     obtain ⟨ul,uc,uf⟩ := boxN HO.out
     have u0 := uc 0 _ rfl
     have u1 := uc 1 _ rfl
     have u2 := uc 2 _ rfl
     have uu0 := uf 0
     have uu1 := uf 1
     have uu2 := uf 2
     simp only [Nat.zero_add] at u0 u1 u2
     clear uc uf
     go_simp
     clear ul u0 u1 u2 uu0 uu1 uu2
     refine hKX.out _ _ trivial (fun hh => ?_)
     clear hKX KX
     try go_frame
     refine wpAnyH_done (by kernel_rfl) ?_ _
     clear hh
     go_wp2_with fail
     go_roundw
     case rel =>
      have k1 : Kpt [g + 2] w7 (w7.setCell ⟨g + 2,1,none⟩ (.slice p7 (l1.length + (i + 1)) c7)) := Kpt.set _ _ _ _ _ (by simp)
      exact ⟨i + 1,p7,c7,by omega,hid (by rw [heap_setCell_same _ _ 1 _ _ _ HO.out]; rfl),hid (HOL.out.kptS k1 (fun b e => by have := (HOL.out.lt b e).1; simp; omega)),hid (HK.out.trans k1 (fun _ h => .inl h))⟩
     case measure =>
      have h2 : (w7.setCell ⟨g + 2,1,none⟩ (.slice p7 (l1.length + (i + 1)) c7)).heap[g + 2]? = some (.cells #[.bool true,.slice p7 (l1.length + (i + 1)) c7,.slice none 0 0] 44 (0,0)) := by rw [heap_setCell_same _ _ 1 _ _ _ HO.out]; rfl
      have h3 : lenO ((w7.setCell ⟨g + 2,1,none⟩ (.slice p7 (l1.length + (i + 1)) c7)).cell? ⟨g + 2,1,none⟩) = l1.length + (i + 1) := by rw [(c3_at h2).2.2.1]; rfl
      show loc.toNat - lenO ((w7.setCell ⟨g + 2,1,none⟩ (.slice p7 (l1.length + (i + 1)) c7)).cell? ⟨g + 2,1,none⟩) < loc.toNat - lenO (wr.cell? ⟨g + 2,1,none⟩)
      rw [h3,HMS.out]
      omega
    refine AllReadyH.cons (o := _) (by simp only [List.getElem?_toArray,List.getElem?_cons_succ,List.getElem?_cons_zero]; rfl) (fun KX hKX => ?_) AllReadyH.nil
    clear hh
    go_simp
    refine (kind_12 7 _).mono ?_
    rintro e wa ⟨rfl,hbn⟩
    replace HM := hid (blk_b HM.out hbn)
    replace HR := hid (blk_b HR.out hbn)
    replace HO := hid (blk_b HO.out hbn)
    replace HOL := hid (HOL.out.kptS (.of_below hbn : Kpt [] _ _) (fun _ _ => by simp))
    replace HK := hid (HK.out.trans (.of_below hbn : Kpt [g + 2] _ _) (fun _ h => .inl h))
    replace HSZ := hid (Nat.le_trans HSZ.out hbn.size)
    clear hbn
    refine hKX.out _ _ trivial (fun hh => ?_)
    clear hKX KX
    try go_frame
    refine rdH [1,3] ?_
    refine AllReadyH.cons (o := _) (by simp only [List.getElem?_toArray,List.getElem?_cons_succ,List.getElem?_cons_zero]; rfl) (fun KX hKX => ?_) ?_
    ·clear hh
     obtain ⟨ul,uc,uf⟩ := boxN HO.out
     have u0 := uc 0 _ rfl
     have u1 := uc 1 _ rfl
     have u2 := uc 2 _ rfl
     simp only [Nat.zero_add] at u0 u1 u2
     clear uc uf
     go_simp
     clear ul u0 u1 u2
     refine hKX.out _ _ trivial (fun hh => ?_)
     clear hKX KX
     try go_frame
     refine rdH [3] ?_
     refine AllReadyH.cons (o := _) (by simp only [List.getElem?_toArray,List.getElem?_cons_succ,List.getElem?_cons_zero]; rfl) (fun KX hKX => ?_) AllReadyH.nil
     clear hh
     go_simp
     have hsrc := rdX_lit1 (sz := 2) (c := tyC) (fun _ => rfl) wa (topT : Ty) #[.int .i64 7,.string ⟨#[]⟩] 26 rfl
     have hbn := below_alR wa (.cells #[.int .i64 7,.string ⟨#[]⟩] 26)
     have HSRC := hid hsrc
     clear hsrc
     obtain ⟨wl,hwl⟩ : ∃ z,z = wa.alloc (.cells #[.int .i64 7,.string ⟨#[]⟩] 26) := ⟨_,rfl⟩
     replace HM := hid (blk_b HM.out hbn)
     replace HR := hid (blk_b HR.out hbn)
     replace HO := hid (blk_b HO.out hbn)
     replace HOL := hid (HOL.out.kptS (.of_below hbn : Kpt [] _ _) (fun _ _ => by simp))
     replace HK := hid (HK.out.trans (.of_below hbn : Kpt [g + 2] _ _) (fun _ h => .inl h))
     replace HSZ := hid (Nat.le_trans HSZ.out hbn.size)
     rw [<- hwl] at HM HR HO HOL HK HSZ HSRC ⊢
     clear hwl hbn
     refine hKX.out _ _ trivial (fun hh => ?_)
     clear hKX KX
     try go_frame
     refine rdH [4] ?_
     refine AllReadyH.cons (o := _) (by simp only [List.getElem?_toArray,List.getElem?_cons_succ,List.getElem?_cons_zero]; rfl) (fun KX hKX => ?_) AllReadyH.nil
     clear hh
     refine step_appM inf_typ shape_typ (by rfl) _ _ (by rfl) (g + 3) _ (topsL l1 i) (by rfl) HOL.out _ 0 1 1 [topT] (by rfl) HSRC.out (by rw [topsL_len]; simp; omega) HSZ.out ?_
     intro v6 w7 ho6 hg6 hl6
     obtain ⟨p7,n7,c7,rfl⟩ := ho6.slice
     rw [topsL_next] at ho6
     obtain ⟨_,_,e6,-⟩ := (ho6.rd (sP.grow _)).len
     simp only [Value.slice.injEq,topsL_len] at e6
     obtain ⟨rfl,rfl,rfl⟩ := e6
     have hol := fun b e => (HOL.out.lt b e).1
     have hkk := Kpt.of_grown (S := ((Value.slice p (l1.length + i) cx).ownBlock).toList) hg6 (fun b e => .inl (by rw [e]; simp))
     have hmm : ∀ b,b ∈ ((Value.slice p (l1.length + i) cx).ownBlock).toList -> g + 3 <= b := fun b hb => hol b (by simpa using hb)
     replace HM := hid (blk_kl HM.out hkk (fun hb => by have := hmm _ hb; omega))
     replace HR := hid (blk_kl HR.out hkk (fun hb => by have := hmm _ hb; omega))
     replace HO := hid (blk_kl HO.out hkk (fun hb => by have := hmm _ hb; omega))
     replace HSZ := hid (Nat.le_trans HSZ.out hkk.size)
     replace HK := hid (HK.out.trans hkk (fun b hb => .inr (by have := hmm b hb; have := HG3.out; omega)))
     replace HOL := hid ho6
     clear hol hkk hmm ho6 hg6 hl6 HSRC
     refine hKX.out _ _ trivial (fun hh => ?_)
     clear hKX KX
     try go_frame
     refine tkA 5 _ hh ?_
     try go_frame
     refine rdH [6] ?_
     refine AllReadyH.cons (o := _) (by simp only [List.getElem?_toArray,List.getElem?_cons_succ,List.getElem?_cons_zero]; rfl) (fun KX hKX => ?_) AllReadyH.nil
     clear hh
     obtain ⟨ul,uc,uf⟩ := boxN HO.out
     have u0 := uc 0 _ rfl
     have u1 := uc 1 _ rfl
     have u2 := uc 2 _ rfl
     have uu0 := uf 0
     have uu1 := uf 1
     have uu2 := uf 2
     simp only [Nat.zero_add] at u0 u1 u2
     clear uc uf
     go_simp
     clear ul u0 u1 u2 uu0 uu1 uu2
     refine hKX.out _ _ trivial (fun hh => ?_)
     clear hKX KX
     try go_frame
     refine wpAnyH_done (by kernel_rfl) ?_ _
     clear hh
     go_wp2_with fail
     go_roundw
     case rel =>
      have k1 : Kpt [g + 2] w7 (w7.setCell ⟨g + 2,1,none⟩ (.slice p7 (l1.length + (i + 1)) c7)) := Kpt.set _ _ _ _ _ (by simp)
      exact ⟨i + 1,p7,c7,by omega,hid (by rw [heap_setCell_same _ _ 1 _ _ _ HO.out]; rfl),hid (HOL.out.kptS k1 (fun b e => by have := (HOL.out.lt b e).1; simp; omega)),hid (HK.out.trans k1 (fun _ h => .inl h))⟩
     case measure =>
      have h2 : (w7.setCell ⟨g + 2,1,none⟩ (.slice p7 (l1.length + (i + 1)) c7)).heap[g + 2]? = some (.cells #[.bool true,.slice p7 (l1.length + (i + 1)) c7,.slice none 0 0] 44 (0,0)) := by rw [heap_setCell_same _ _ 1 _ _ _ HO.out]; rfl
      have h3 : lenO ((w7.setCell ⟨g + 2,1,none⟩ (.slice p7 (l1.length + (i + 1)) c7)).cell? ⟨g + 2,1,none⟩) = l1.length + (i + 1) := by rw [(c3_at h2).2.2.1]; rfl
      show loc.toNat - lenO ((w7.setCell ⟨g + 2,1,none⟩ (.slice p7 (l1.length + (i + 1)) c7)).cell? ⟨g + 2,1,none⟩) < loc.toNat - lenO (wr.cell? ⟨g + 2,1,none⟩)
      rw [h3,HMS.out]
      omega
    refine AllReadyH.cons (o := _) (by simp only [List.getElem?_toArray,List.getElem?_cons_succ,List.getElem?_cons_zero]; rfl) (fun KX hKX => ?_) AllReadyH.nil
    clear hh
    go_simp
    have hsrc := rdX_lit1 (sz := 2) (c := tyC) (fun _ => rfl) wa (topT : Ty) #[.int .i64 7,.string ⟨#[]⟩] 26 rfl
    have hbn := below_alR wa (.cells #[.int .i64 7,.string ⟨#[]⟩] 26)
    have HSRC := hid hsrc
    clear hsrc
    obtain ⟨wl,hwl⟩ : ∃ z,z = wa.alloc (.cells #[.int .i64 7,.string ⟨#[]⟩] 26) := ⟨_,rfl⟩
    replace HM := hid (blk_b HM.out hbn)
    replace HR := hid (blk_b HR.out hbn)
    replace HO := hid (blk_b HO.out hbn)
    replace HOL := hid (HOL.out.kptS (.of_below hbn : Kpt [] _ _) (fun _ _ => by simp))
    replace HK := hid (HK.out.trans (.of_below hbn : Kpt [g + 2] _ _) (fun _ h => .inl h))
    replace HSZ := hid (Nat.le_trans HSZ.out hbn.size)
    rw [<- hwl] at HM HR HO HOL HK HSZ HSRC ⊢
    clear hwl hbn
    refine hKX.out _ _ trivial (fun hh => ?_)
    clear hKX KX
    try go_frame
    refine rdH [1] ?_
    refine AllReadyH.cons (o := _) (by simp only [List.getElem?_toArray,List.getElem?_cons_succ,List.getElem?_cons_zero]; rfl) (fun KX hKX => ?_) AllReadyH.nil
    clear hh
    obtain ⟨ul,uc,uf⟩ := boxN HO.out
    have u0 := uc 0 _ rfl
    have u1 := uc 1 _ rfl
    have u2 := uc 2 _ rfl
    simp only [Nat.zero_add] at u0 u1 u2
    clear uc uf
    go_simp
    clear ul u0 u1 u2
    refine hKX.out _ _ trivial (fun hh => ?_)
    clear hKX KX
    try go_frame
    refine rdH [4] ?_
    refine AllReadyH.cons (o := _) (by simp only [List.getElem?_toArray,List.getElem?_cons_succ,List.getElem?_cons_zero]; rfl) (fun KX hKX => ?_) AllReadyH.nil
    clear hh
    refine step_appM inf_typ shape_typ (by rfl) _ _ (by rfl) (g + 3) _ (topsL l1 i) (by rfl) HOL.out _ 0 1 1 [topT] (by rfl) HSRC.out (by rw [topsL_len]; simp; omega) HSZ.out ?_
    intro v6 w7 ho6 hg6 hl6
    obtain ⟨p7,n7,c7,rfl⟩ := ho6.slice
    rw [topsL_next] at ho6
    obtain ⟨_,_,e6,-⟩ := (ho6.rd (sP.grow _)).len
    simp only [Value.slice.injEq,topsL_len] at e6
    obtain ⟨rfl,rfl,rfl⟩ := e6
    have hol := fun b e => (HOL.out.lt b e).1
    have hkk := Kpt.of_grown (S := ((Value.slice p (l1.length + i) cx).ownBlock).toList) hg6 (fun b e => .inl (by rw [e]; simp))
    have hmm : ∀ b,b ∈ ((Value.slice p (l1.length + i) cx).ownBlock).toList -> g + 3 <= b := fun b hb => hol b (by simpa using hb)
    replace HM := hid (blk_kl HM.out hkk (fun hb => by have := hmm _ hb; omega))
    replace HR := hid (blk_kl HR.out hkk (fun hb => by have := hmm _ hb; omega))
    replace HO := hid (blk_kl HO.out hkk (fun hb => by have := hmm _ hb; omega))
    replace HSZ := hid (Nat.le_trans HSZ.out hkk.size)
    replace HK := hid (HK.out.trans hkk (fun b hb => .inr (by have := hmm b hb; have := HG3.out; omega)))
    replace HOL := hid ho6
    clear hol hkk hmm ho6 hg6 hl6 HSRC
    refine hKX.out _ _ trivial (fun hh => ?_)
    clear hKX KX
    try go_frame
    refine tkA 5 _ hh ?_
    try go_frame
    refine rdH [6] ?_
    refine AllReadyH.cons (o := _) (by simp only [List.getElem?_toArray,List.getElem?_cons_succ,List.getElem?_cons_zero]; rfl) (fun KX hKX => ?_) AllReadyH.nil
    clear hh
    obtain ⟨ul,uc,uf⟩ := boxN HO.out
    have u0 := uc 0 _ rfl
    have u1 := uc 1 _ rfl
    have u2 := uc 2 _ rfl
    have uu0 := uf 0
    have uu1 := uf 1
    have uu2 := uf 2
    simp only [Nat.zero_add] at u0 u1 u2
    clear uc uf
    go_simp
    clear ul u0 u1 u2 uu0 uu1 uu2
    refine hKX.out _ _ trivial (fun hh => ?_)
    clear hKX KX
    try go_frame
    refine wpAnyH_done (by kernel_rfl) ?_ _
    clear hh
    go_wp2_with fail
    go_roundw
    case rel =>
     have k1 : Kpt [g + 2] w7 (w7.setCell ⟨g + 2,1,none⟩ (.slice p7 (l1.length + (i + 1)) c7)) := Kpt.set _ _ _ _ _ (by simp)
     exact ⟨i + 1,p7,c7,by omega,hid (by rw [heap_setCell_same _ _ 1 _ _ _ HO.out]; rfl),hid (HOL.out.kptS k1 (fun b e => by have := (HOL.out.lt b e).1; simp; omega)),hid (HK.out.trans k1 (fun _ h => .inl h))⟩
    case measure =>
     have h2 : (w7.setCell ⟨g + 2,1,none⟩ (.slice p7 (l1.length + (i + 1)) c7)).heap[g + 2]? = some (.cells #[.bool true,.slice p7 (l1.length + (i + 1)) c7,.slice none 0 0] 44 (0,0)) := by rw [heap_setCell_same _ _ 1 _ _ _ HO.out]; rfl
     have h3 : lenO ((w7.setCell ⟨g + 2,1,none⟩ (.slice p7 (l1.length + (i + 1)) c7)).cell? ⟨g + 2,1,none⟩) = l1.length + (i + 1) := by rw [(c3_at h2).2.2.1]; rfl
     show loc.toNat - lenO ((w7.setCell ⟨g + 2,1,none⟩ (.slice p7 (l1.length + (i + 1)) c7)).cell? ⟨g + 2,1,none⟩) < loc.toNat - lenO (wr.cell? ⟨g + 2,1,none⟩)
     rw [h3,HMS.out]
     omega
   ·have hlt2 : ¬ ((l1.length + i : Nat) : Int) < loc := by omega
    obtain ⟨_,_,e8,hc8⟩ := (HOL.out.rd (sP.grow _)).len
    simp only [Value.slice.injEq] at e8
    obtain ⟨rfl,-,rfl⟩ := e8
    rw [topsL_len] at hc8
    obtain ⟨ln,hln⟩ : ∃ z,loc.toNat = z := ⟨_,rfl⟩
    have hm0 : max loc 0 = (ln : Int) := by omega
    have hm1 : ln <= l1.length + i := by omega
    have hm2 : (ln : Int) <= ((l1.length + i : Nat) : Int) := by omega
    have hm3 : (ln : Int) <= (cx : Int) := by omega
    have hm4 : min ((l1.length : Int) + (i : Int)) (ln : Int) = (ln : Int) := by omega
    have hm5 : (ln : Int) <= (l1.length : Int) + (i : Int) := by omega
    have HLN0 := hid hln
    clear hln
    clear ul u0 u1 u2
    obtain ⟨ul,uc,uf⟩ := boxN HO.out
    have u0 := uc 0 _ rfl
    have u1 := uc 1 _ rfl
    have u2 := uc 2 _ rfl
    have uu0 := uf 0
    have uu1 := uf 1
    have uu2 := uf 2
    simp only [Nat.zero_add] at u0 u1 u2
    clear uc uf
    go_upto_region 8 with fail
    obtain ⟨w9,hw9⟩ : ∃ z,z = wr.setCell ⟨g + 1 + 1,1,none⟩ (.slice p ln cx) := ⟨_,rfl⟩
    have hk1 : Kpt [g + 2] wr w9 := by rw [hw9]; exact Kpt.set _ _ _ _ _ (by simp)
    have HO9 : Hid (w9.heap[g + 2]? = some (.cells #[.bool true,.slice p ln cx,.slice none 0 0] 44 (0,0))) := hid (by rw [hw9]; show (wr.setCell ⟨g + 2,1,none⟩ _).heap[g + 2]? = _; rw [heap_setCell_same _ _ 1 _ _ _ HO.out]; rfl)
    replace HR := hid (blk_k HR.out hk1 (by omega))
    have HK9 := hid (HKi.out.trans hk1 (fun _ h => .inl h))
    have HFR : Hid (OT w9 (g + 3) (.slice p ln cx) ((topsL l1 i).take ln)) := hid (OwnX.frontT (HOL.out.kptS hk1 (fun b e => by have := (HOL.out.lt b e).1; simp; omega)) (by rw [topsL_len]; omega))
    have HLV : Hid ((topsL l1 i).take ln = (l1 ++ List.replicate ln topT).take ln) := hid (take_rep (by omega))
    have HLN : Hid (((l1 ++ List.replicate ln topT).take ln).length = ln) := hid (by rw [List.length_take,List.length_append,List.length_replicate]; omega)
    rw [<- hw9]
    clear hw9 hk1 HO HOL HKi
    clear ul u0 u1 u2 uu0 uu1 uu2
    obtain ⟨ul,uc,uf⟩ := boxN HO9.out
    have u0 := uc 0 _ rfl
    have u1 := uc 1 _ rfl
    have u2 := uc 2 _ rfl
    simp only [Nat.zero_add] at u0 u1 u2
    clear uc uf
    obtain ⟨rl,rc,rf⟩ := boxN HR.out
    have r0 := rc 0 _ rfl
    have r1 := rc 1 _ rfl
    have r2 := rc 2 _ rfl
    have ru0 := rf 0
    have ru1 := rf 1
    have ru2 := rf 2
    simp only [Nat.zero_add] at r0 r1 r2
    clear rc rf
    go_wp2_with fail
    refine bodyPost_ret (v := .agg #[.bool true,.slice p ln cx,.slice none 0 0]) (by simp [*,results,Tryz.results19,go_sem]) rfl ?_
    have hk := set3_kpt w9 (g + 1) 0 1 2 (.bool true) (.slice p ln cx) (.slice none 0 0)
    refine ⟨_,rfl,⟨p,cx,none,0,?_,?_,RdX.nil _ _ _ _⟩,HB.out.trans (((HK9.out.mono (S' := [g + 2,g + 1]) (fun x hx _ => by simp at hx ⊢; omega)).trans hk (fun x hx => .inl (by simp at hx ⊢; omega))).below (fun x hx => by simp at hx; have := HG.out; omega) HB.out.size)⟩
    ·unfold entryP; dsimp only; rw [HL0.out,HL1.out,HLN0.out,HLN.out]; rfl
    ·unfold entryP; dsimp only; rw [HL0.out,HL1.out,HLN0.out,HLN.out,<- HLV.out]; exact rd_any ((HFR.out.kptS hk (fun b e => by have := (HFR.out.lt b e).1; simp; omega)).rd (sP.grow _))
end Go.Proofs.YtpkjlgdbaajpoaaGreat.R
