/- Texts that the proof is made of,joined. No condition. -/
import Derived.Test.YtijnimjmimeefaaGreatSC12
import Derived.Test.YtijnimjmimeefaaGreatSC4
import Derived.Test.YtijnimjmimeefaaGreatSC14
import Derived.Test.YtijnimjmimeefaaGreatSC15
import Derived.Test.YtijnimjmimeefaaGreatSC16
import Derived.Lib.SlBytesConst
import Derived.Test.YtijnimjmimeefaaGreatSCH
set_option linter.unusedVariables false
set_option linter.unusedSimpArgs false
set_option maxRecDepth 100000
set_option maxHeartbeats 16000000
namespace Go.Proofs.YtijnimjmimeefaaGreat.A
open Go.RowKit Go.Proofs.YtijnimjmimeefaaGreat.D Go.Proofs.YtijnimjmimeefaaGreat.O
noncomputable def eqA {α : Type} (x y : α) : Bool := @decide (x = y) (Classical.propDecidable _)
theorem eqA_iff {α : Type} {x y : α} : eqA x y = true ↔ x = y := by unfold eqA; exact @decide_eq_true_iff _ (Classical.propDecidable _)
theorem eqA_self {α : Type} (x : α) : eqA x x = true := eqA_iff.2 rfl
theorem eqA_no {α : Type} {x y : α} (h : ¬ x = y) : eqA x y = false := by
 cases e : eqA x y with
 | false => rfl
 | true => exact absurd (eqA_iff.1 e) h
theorem eqA_dec {α : Type} (x y : α) [Decidable (x = y)] : decide (x = y) = eqA x y := by
 by_cases h : x = y
 ·rw [eqA_iff.2 h]; simp [h]
 ·rw [eqA_no h]; simp [h]
theorem eqA_len {α : Type} {xs ys : List α} (h : ¬ xs.length = ys.length) : eqA xs ys = false := eqA_no (fun e => h (by rw [e]))
theorem eqA_ne {α : Type} {xs ys : List α} {k : Nat} {x y : α} (hx : xs[k]? = some x) (hy : ys[k]? = some y) (h : ¬ x = y) : eqA xs ys = false := eqA_no (fun e => by subst e; rw [hx] at hy; cases hy; exact h rfl)
theorem eqA_get {α : Type} {xs ys : List α} (hl : xs.length = ys.length) (h : ∀ i : Nat,i < xs.length -> xs[i]? = ys[i]?) : eqA xs ys = true := by
 rw [eqA_iff]
 refine List.ext_getElem? fun i => ?_
 by_cases hi : i < xs.length
 ·exact h i hi
 ·rw [List.getElem?_eq_none (by omega),List.getElem?_eq_none (by omega)]
theorem eqA_split {α : Type} {x y : α} {b : Bool} (h : eqA x y = b) : (b = true -> x = y) /\ (b = false -> ¬ x = y) := by
 constructor
 ·rintro rfl; exact eqA_iff.1 h
 ·rintro rfl e; rw [eqA_iff.2 e] at h; cases h
theorem eqf_ins (ok ok' : Nat -> Prop) (va vb : Value) (xs ys : List Ins) (w : World) (hr : RdX 7 (sP insC) ok w va xs) (hr2 : RdX 7 (sP insC) ok' w vb ys) (hm : xs.length <= 1000000) (hm2 : ys.length <= 1000000)
  (hf : ∀ x ∈ xs,∀ y ∈ ys,∀ vs us w',(sP insC) ok w' vs x -> (sP insC) ok' w' us y -> Below w.heap.size w w' -> Calls Tryz.prog 133 #[.agg vs.toArray,.agg us.toArray] w' fun e w'' => e = .returned (.bool (eqA x y)) /\ Below w'.heap.size w' w'') :
  Calls Tryz.prog 132 #[va,vb,.func (.func 133) #[] #[]] w fun e w' => e = .returned (.bool (eqA xs ys)) /\ Below w.heap.size w w' := by
 have HFF := hid hf
 clear hf
 obtain ⟨p,cap,rfl,hcap⟩ := hr.len
 obtain ⟨q,dap,rfl,hdap⟩ := hr2.len
 by_cases hl : xs.length = ys.length
 ·have HL := hid hl
  have hnn : (((xs.length : Nat) : Int) != (ys.length : Nat)) = false := by rw [bne_eq_false_iff_eq]; omega
  by_cases h0 : xs = []
  ·subst h0
   have h1 : ys = [] := List.eq_nil_of_length_eq_zero (by simpa using hl.symm)
   subst h1
   clear hl hcap hdap hr hr2 hnn
   go_enter Tryz.func132,Tryz.ntmps132
   go_wp2_with fail
   go_loop [17] (fun i => i = .int .i64 0) (fun _ => 0)
   case atStart => exact rfl
   case round =>
    obtain rfl := hrel
    go_wp2_with fail
    go_ret
    exact ⟨D.ret_bool (eqA_self _).symm,Below.refl _ _⟩
  ·have h1 : ys ≠ [] := fun e => h0 (List.eq_nil_of_length_eq_zero (by rw [hl,e]; rfl))
   obtain ⟨b,off,rfl,-,-,hok,hlt,hc⟩ := hr.place h0
   obtain ⟨d,ofd,rfl,-,-,hok2,hlt',hc'⟩ := hr2.place h1
   have HC := hid hc
   have HD := hid hc'
   have hl1 : xs.length <= ys.length := by omega
   have hl2 : ys.length <= xs.length := by omega
   clear hc hc' hr hr2 hcap hdap h0 h1 hl
   go_enter Tryz.func132,Tryz.ntmps132
   go_wp2_with fail
   go_loopw [17] (fun i wr => ∃ k : Nat,k <= xs.length /\ i = .int .i64 k /\ (∀ j : Nat,j < k -> xs[j]? = ys[j]?) /\ Below w.heap.size w wr) (fun i _ => xs.length - (intOf i).toNat)
   case atStart => exact ⟨0,Nat.zero_le _,rfl,fun j h => absurd h (Nat.not_lt_zero _),Below.refl _ _⟩
   case round =>
    obtain ⟨k,hk,rfl,hr,hbl⟩ := hrel
    have HR := hid hr
    have hsz := hbl.size
    clear hr
    by_cases hlt2 : k < xs.length
    ·obtain ⟨x,hx⟩ : ∃ x,xs[k]? = some x := ⟨_,List.getElem?_eq_getElem hlt2⟩
     obtain ⟨y,hy⟩ : ∃ y,ys[k]? = some y := ⟨_,List.getElem?_eq_getElem (by omega)⟩
     have hmem := hid (List.mem_of_getElem? hx)
     have hmem2 := hid (List.mem_of_getElem? hy)
     have hcls := (sP_at (HC.out k x hx)).below hbl hlt
     obtain ⟨s0,s1,s2,s3,s4,s5,s6⟩ := x
     obtain ⟨hs0,hs1,hs2,hs3,hs4,hs5,hs6⟩ := CellsAt.seven hcls
     have hclt := (sP_at (HD.out k y hy)).below hbl hlt'
     obtain ⟨t0,t1,t2,t3,t4,t5,t6⟩ := y
     obtain ⟨ht0,ht1,ht2,ht3,ht4,ht5,ht6⟩ := CellsAt.seven hclt
     have HX := hid hx
     have HY := hid hy
     clear hx hy
     have gy1 : d < wr.heap.size := by omega
     have gy2 : ¬ d = wr.heap.size := by omega
     go_wp2_with fail
     refine (HFF.out _ hmem.out _ hmem2.out _ _ _ rfl rfl ((hbl.alloc hsz _).alloc (by simp; omega) _)).mono ?_
     rintro e w1 ⟨rfl,hb1⟩
     have hB : Below w.heap.size w w1 := ((hbl.alloc hsz _).alloc (by simp; omega) _).trans (hb1.mono (by simp; omega))
     cases hfx : eqA (s0,s1,s2,s3,s4,s5,s6) (t0,t1,t2,t3,t4,t5,t6) with
     | false =>
      have HF := hid (eqA_ne HX.out HY.out ((eqA_split hfx).2 rfl))
      go_wp2_with fail
      go_ret
      exact ⟨D.ret_bool HF.out.symm,hB⟩
     | true =>
      have HE := (eqA_split hfx).1 rfl
      have HS : Hid (∀ j : Nat,j < k + 1 -> xs[j]? = ys[j]?) := hid (by
       intro j hj
       by_cases e : j = k
       ·subst e; rw [HX.out,HY.out,HE]
       ·exact HR.out j (by omega))
      clear HE hfx
      go_wp2_with fail
      go_roundw
      case rel => exact ⟨k + 1,by omega,by go_num,HS.out,hB⟩
      case measure => simp [intOf]; omega
    ·have HF : Hid (eqA xs ys = true) := hid (eqA_get HL.out (fun i hi => HR.out i (by omega)))
     go_wp2_with fail
     go_ret
     exact ⟨D.ret_bool HF.out.symm,hbl⟩
 ·have HF := hid (eqA_len hl)
  have hnn : (((xs.length : Nat) : Int) != (ys.length : Nat)) = true := by rw [bne_iff_ne]; omega
  clear hr hr2 hcap hdap
  go_enter Tryz.func132,Tryz.ntmps132
  go_wp2_with fail
  go_ret
  exact ⟨D.ret_bool HF.out.symm,Below.refl _ _⟩
theorem eqf_mth (ok ok' : Nat -> Prop) (va vb : Value) (xs ys : List Mth) (w : World) (hr : RdX 9 mP ok w va xs) (hr2 : RdX 9 mP ok' w vb ys) (hm : xs.length <= 1000000) (hm2 : ys.length <= 1000000)
  (hf : ∀ x ∈ xs,∀ y ∈ ys,∀ vs us w',mP ok w' vs x -> mP ok' w' us y -> Below w.heap.size w w' -> Calls Tryz.prog 87 #[.agg vs.toArray,.agg us.toArray] w' fun e w'' => e = .returned (.bool (eqA x y)) /\ Below w'.heap.size w' w'') :
  Calls Tryz.prog 86 #[va,vb,.func (.func 87) #[] #[]] w fun e w' => e = .returned (.bool (eqA xs ys)) /\ Below w.heap.size w w' := by
 have HFF := hid hf
 clear hf
 obtain ⟨p,cap,rfl,hcap⟩ := hr.len
 obtain ⟨q,dap,rfl,hdap⟩ := hr2.len
 by_cases hl : xs.length = ys.length
 ·have HL := hid hl
  have hnn : (((xs.length : Nat) : Int) != (ys.length : Nat)) = false := by rw [bne_eq_false_iff_eq]; omega
  by_cases h0 : xs = []
  ·subst h0
   have h1 : ys = [] := List.eq_nil_of_length_eq_zero (by simpa using hl.symm)
   subst h1
   clear hl hcap hdap hr hr2 hnn
   go_enter Tryz.func86,Tryz.ntmps86
   go_wp2_with fail
   go_loop [17] (fun i => i = .int .i64 0) (fun _ => 0)
   case atStart => exact rfl
   case round =>
    obtain rfl := hrel
    go_wp2_with fail
    go_ret
    exact ⟨D.ret_bool (eqA_self _).symm,Below.refl _ _⟩
  ·have h1 : ys ≠ [] := fun e => h0 (List.eq_nil_of_length_eq_zero (by rw [hl,e]; rfl))
   obtain ⟨b,off,rfl,-,-,hok,hlt,hc⟩ := hr.place h0
   obtain ⟨d,ofd,rfl,-,-,hok2,hlt',hc'⟩ := hr2.place h1
   have HC := hid hc
   have HD := hid hc'
   have hl1 : xs.length <= ys.length := by omega
   have hl2 : ys.length <= xs.length := by omega
   clear hc hc' hr hr2 hcap hdap h0 h1 hl
   go_enter Tryz.func86,Tryz.ntmps86
   go_wp2_with fail
   go_loopw [17] (fun i wr => ∃ k : Nat,k <= xs.length /\ i = .int .i64 k /\ (∀ j : Nat,j < k -> xs[j]? = ys[j]?) /\ Below w.heap.size w wr) (fun i _ => xs.length - (intOf i).toNat)
   case atStart => exact ⟨0,Nat.zero_le _,rfl,fun j h => absurd h (Nat.not_lt_zero _),Below.refl _ _⟩
   case round =>
    obtain ⟨k,hk,rfl,hr,hbl⟩ := hrel
    have HR := hid hr
    have hsz := hbl.size
    clear hr
    by_cases hlt2 : k < xs.length
    ·obtain ⟨x,hx⟩ : ∃ x,xs[k]? = some x := ⟨_,List.getElem?_eq_getElem hlt2⟩
     obtain ⟨y,hy⟩ : ∃ y,ys[k]? = some y := ⟨_,List.getElem?_eq_getElem (by omega)⟩
     have hmem := hid (List.mem_of_getElem? hx)
     have hmem2 := hid (List.mem_of_getElem? hy)
     obtain ⟨vss,hvs,hcls⟩ := HC.out k x hx
     have hvs' := hvs
     obtain ⟨vps,vcs,vhs,rfl,hd0,hd1,hd2⟩ := hvs'
     obtain ⟨hs0,hs1,hs2,hs3,hs4,hs5,hs6,hs7,hs8⟩ := CellsAt.nine (hcls.below hbl hlt)
     obtain ⟨pvps,cvps,rfl,-⟩ := hd0.len
     obtain ⟨pvcs,cvcs,rfl,-⟩ := hd1.len
     obtain ⟨pvhs,cvhs,rfl,-⟩ := hd2.len
     have HVs := hid hvs
     clear hcls hvs hd0 hd1 hd2
     obtain ⟨vst,hvt,hclt⟩ := HD.out k y hy
     have hvt' := hvt
     obtain ⟨vpt,vct,vht,rfl,hd0,hd1,hd2⟩ := hvt'
     obtain ⟨ht0,ht1,ht2,ht3,ht4,ht5,ht6,ht7,ht8⟩ := CellsAt.nine (hclt.below hbl hlt')
     obtain ⟨pvpt,cvpt,rfl,-⟩ := hd0.len
     obtain ⟨pvct,cvct,rfl,-⟩ := hd1.len
     obtain ⟨pvht,cvht,rfl,-⟩ := hd2.len
     have HVt := hid hvt
     clear hclt hvt hd0 hd1 hd2
     have HX := hid hx
     have HY := hid hy
     clear hx hy
     have gy1 : d < wr.heap.size := by omega
     have gy2 : ¬ d = wr.heap.size := by omega
     go_wp2_with fail
     refine (HFF.out x hmem.out y hmem2.out _ _ _ (mP.grow _ _ _ _ _ _ HVs.out (fun _ h _ => h) (.of_below (hbl.trans (((Below.refl _ _).alloc hsz _).alloc (by simp; omega) _))) (by simp; omega)) (mP.grow _ _ _ _ _ _ HVt.out (fun _ h _ => h) (.of_below (hbl.trans (((Below.refl _ _).alloc hsz _).alloc (by simp; omega) _))) (by simp; omega)) ((hbl.alloc hsz _).alloc (by simp; omega) _)).mono ?_
     rintro e w1 ⟨rfl,hb1⟩
     have hB : Below w.heap.size w w1 := ((hbl.alloc hsz _).alloc (by simp; omega) _).trans (hb1.mono (by simp; omega))
     cases hfx : eqA x y with
     | false =>
      have HF := hid (eqA_ne HX.out HY.out ((eqA_split hfx).2 rfl))
      go_wp2_with fail
      go_ret
      exact ⟨D.ret_bool HF.out.symm,hB⟩
     | true =>
      have HE := (eqA_split hfx).1 rfl
      have HS : Hid (∀ j : Nat,j < k + 1 -> xs[j]? = ys[j]?) := hid (by
       intro j hj
       by_cases e : j = k
       ·subst e; rw [HX.out,HY.out,HE]
       ·exact HR.out j (by omega))
      clear HE hfx
      go_wp2_with fail
      go_roundw
      case rel => exact ⟨k + 1,by omega,by go_num,HS.out,hB⟩
      case measure => simp [intOf]; omega
    ·have HF : Hid (eqA xs ys = true) := hid (eqA_get HL.out (fun i hi => HR.out i (by omega)))
     go_wp2_with fail
     go_ret
     exact ⟨D.ret_bool HF.out.symm,hbl⟩
 ·have HF := hid (eqA_len hl)
  have hnn : (((xs.length : Nat) : Int) != (ys.length : Nat)) = true := by rw [bne_iff_ne]; omega
  clear hr hr2 hcap hdap
  go_enter Tryz.func86,Tryz.ntmps86
  go_wp2_with fail
  go_ret
  exact ⟨D.ret_bool HF.out.symm,Below.refl _ _⟩
theorem eqf_cls (ok ok' : Nat -> Prop) (va vb : Value) (xs ys : List Cls) (w : World) (hr : RdX 6 cP ok w va xs) (hr2 : RdX 6 cP ok' w vb ys) (hm : xs.length <= 1000000) (hm2 : ys.length <= 1000000)
  (hf : ∀ x ∈ xs,∀ y ∈ ys,∀ vs us w',cP ok w' vs x -> cP ok' w' us y -> Below w.heap.size w w' -> Calls Tryz.prog 43 #[.agg vs.toArray,.agg us.toArray] w' fun e w'' => e = .returned (.bool (eqA x y)) /\ Below w'.heap.size w' w'') :
  Calls Tryz.prog 42 #[va,vb,.func (.func 43) #[] #[]] w fun e w' => e = .returned (.bool (eqA xs ys)) /\ Below w.heap.size w w' := by
 have HFF := hid hf
 clear hf
 obtain ⟨p,cap,rfl,hcap⟩ := hr.len
 obtain ⟨q,dap,rfl,hdap⟩ := hr2.len
 by_cases hl : xs.length = ys.length
 ·have HL := hid hl
  have hnn : (((xs.length : Nat) : Int) != (ys.length : Nat)) = false := by rw [bne_eq_false_iff_eq]; omega
  by_cases h0 : xs = []
  ·subst h0
   have h1 : ys = [] := List.eq_nil_of_length_eq_zero (by simpa using hl.symm)
   subst h1
   clear hl hcap hdap hr hr2 hnn
   go_enter Tryz.func42,Tryz.ntmps42
   go_wp2_with fail
   go_loop [17] (fun i => i = .int .i64 0) (fun _ => 0)
   case atStart => exact rfl
   case round =>
    obtain rfl := hrel
    go_wp2_with fail
    go_ret
    exact ⟨D.ret_bool (eqA_self _).symm,Below.refl _ _⟩
  ·have h1 : ys ≠ [] := fun e => h0 (List.eq_nil_of_length_eq_zero (by rw [hl,e]; rfl))
   obtain ⟨b,off,rfl,-,-,hok,hlt,hc⟩ := hr.place h0
   obtain ⟨d,ofd,rfl,-,-,hok2,hlt',hc'⟩ := hr2.place h1
   have HC := hid hc
   have HD := hid hc'
   have hl1 : xs.length <= ys.length := by omega
   have hl2 : ys.length <= xs.length := by omega
   clear hc hc' hr hr2 hcap hdap h0 h1 hl
   go_enter Tryz.func42,Tryz.ntmps42
   go_wp2_with fail
   go_loopw [17] (fun i wr => ∃ k : Nat,k <= xs.length /\ i = .int .i64 k /\ (∀ j : Nat,j < k -> xs[j]? = ys[j]?) /\ Below w.heap.size w wr) (fun i _ => xs.length - (intOf i).toNat)
   case atStart => exact ⟨0,Nat.zero_le _,rfl,fun j h => absurd h (Nat.not_lt_zero _),Below.refl _ _⟩
   case round =>
    obtain ⟨k,hk,rfl,hr,hbl⟩ := hrel
    have HR := hid hr
    have hsz := hbl.size
    clear hr
    by_cases hlt2 : k < xs.length
    ·obtain ⟨x,hx⟩ : ∃ x,xs[k]? = some x := ⟨_,List.getElem?_eq_getElem hlt2⟩
     obtain ⟨y,hy⟩ : ∃ y,ys[k]? = some y := ⟨_,List.getElem?_eq_getElem (by omega)⟩
     have hmem := hid (List.mem_of_getElem? hx)
     have hmem2 := hid (List.mem_of_getElem? hy)
     obtain ⟨vss,hvs,hcls⟩ := HC.out k x hx
     have hvs' := hvs
     obtain ⟨vis,vfs,vms,rfl,hd0,hd1,hd2⟩ := hvs'
     obtain ⟨hs0,hs1,hs2,hs3,hs4,hs5⟩ := CellsAt.six (hcls.below hbl hlt)
     obtain ⟨pvis,cvis,rfl,-⟩ := hd0.len
     obtain ⟨pvfs,cvfs,rfl,-⟩ := hd1.len
     obtain ⟨pvms,cvms,rfl,-⟩ := hd2.len
     have HVs := hid hvs
     clear hcls hvs hd0 hd1 hd2
     obtain ⟨vst,hvt,hclt⟩ := HD.out k y hy
     have hvt' := hvt
     obtain ⟨vit,vft,vmt,rfl,hd0,hd1,hd2⟩ := hvt'
     obtain ⟨ht0,ht1,ht2,ht3,ht4,ht5⟩ := CellsAt.six (hclt.below hbl hlt')
     obtain ⟨pvit,cvit,rfl,-⟩ := hd0.len
     obtain ⟨pvft,cvft,rfl,-⟩ := hd1.len
     obtain ⟨pvmt,cvmt,rfl,-⟩ := hd2.len
     have HVt := hid hvt
     clear hclt hvt hd0 hd1 hd2
     have HX := hid hx
     have HY := hid hy
     clear hx hy
     have gy1 : d < wr.heap.size := by omega
     have gy2 : ¬ d = wr.heap.size := by omega
     go_wp2_with fail
     refine (HFF.out x hmem.out y hmem2.out _ _ _ (cP.grow _ _ _ _ _ _ HVs.out (fun _ h _ => h) (.of_below (hbl.trans (((Below.refl _ _).alloc hsz _).alloc (by simp; omega) _))) (by simp; omega)) (cP.grow _ _ _ _ _ _ HVt.out (fun _ h _ => h) (.of_below (hbl.trans (((Below.refl _ _).alloc hsz _).alloc (by simp; omega) _))) (by simp; omega)) ((hbl.alloc hsz _).alloc (by simp; omega) _)).mono ?_
     rintro e w1 ⟨rfl,hb1⟩
     have hB : Below w.heap.size w w1 := ((hbl.alloc hsz _).alloc (by simp; omega) _).trans (hb1.mono (by simp; omega))
     cases hfx : eqA x y with
     | false =>
      have HF := hid (eqA_ne HX.out HY.out ((eqA_split hfx).2 rfl))
      go_wp2_with fail
      go_ret
      exact ⟨D.ret_bool HF.out.symm,hB⟩
     | true =>
      have HE := (eqA_split hfx).1 rfl
      have HS : Hid (∀ j : Nat,j < k + 1 -> xs[j]? = ys[j]?) := hid (by
       intro j hj
       by_cases e : j = k
       ·subst e; rw [HX.out,HY.out,HE]
       ·exact HR.out j (by omega))
      clear HE hfx
      go_wp2_with fail
      go_roundw
      case rel => exact ⟨k + 1,by omega,by go_num,HS.out,hB⟩
      case measure => simp [intOf]; omega
    ·have HF : Hid (eqA xs ys = true) := hid (eqA_get HL.out (fun i hi => HR.out i (by omega)))
     go_wp2_with fail
     go_ret
     exact ⟨D.ret_bool HF.out.symm,hbl⟩
 ·have HF := hid (eqA_len hl)
  have hnn : (((xs.length : Nat) : Int) != (ys.length : Nat)) = true := by rw [bne_iff_ne]; omega
  clear hr hr2 hcap hdap
  go_enter Tryz.func42,Tryz.ntmps42
  go_wp2_with fail
  go_ret
  exact ⟨D.ret_bool HF.out.symm,Below.refl _ _⟩
theorem eq_fld (ok ok' : Nat -> Prop) (va vb : Value) (xs ys : List Fld) (w : World) (hr : RdX 4 (sP fldC) ok w va xs) (hr2 : RdX 4 (sP fldC) ok' w vb ys) (hm : xs.length <= 1000000) (hm2 : ys.length <= 1000000) :
  Calls Tryz.prog 85 #[va,vb] w fun e w' => e = .returned (.bool (eqA xs ys)) /\ Below w.heap.size w w' := by
 obtain ⟨p,cap,rfl,hcap⟩ := hr.len
 obtain ⟨q,dap,rfl,hdap⟩ := hr2.len
 by_cases hl : xs.length = ys.length
 ·have HL := hid hl
  have hnn : (((xs.length : Nat) : Int) != (ys.length : Nat)) = false := by rw [bne_eq_false_iff_eq]; omega
  by_cases h0 : xs = []
  ·subst h0
   have h1 : ys = [] := List.eq_nil_of_length_eq_zero (by simpa using hl.symm)
   subst h1
   clear hl hcap hdap hr hr2 hnn
   go_enter Tryz.func85,Tryz.ntmps85
   go_wp2_with fail
   go_loop [13] (fun i => i = .int .i64 0) (fun _ => 0)
   case atStart => exact rfl
   case round =>
    obtain rfl := hrel
    go_wp2_with fail
    go_ret
    exact ⟨D.ret_bool (eqA_self _).symm,Below.refl _ _⟩
  ·have h1 : ys ≠ [] := fun e => h0 (List.eq_nil_of_length_eq_zero (by rw [hl,e]; rfl))
   obtain ⟨b,off,rfl,-,-,hok,hlt,hc⟩ := hr.place h0
   obtain ⟨d,ofd,rfl,-,-,hok2,hlt',hc'⟩ := hr2.place h1
   have HC := hid hc
   have HD := hid hc'
   have hl1 : xs.length <= ys.length := by omega
   have hl2 : ys.length <= xs.length := by omega
   clear hc hc' hr hr2 hcap hdap h0 h1 hl
   go_enter Tryz.func85,Tryz.ntmps85
   go_wp2_with fail
   go_loopw [13] (fun i wr => ∃ k : Nat,k <= xs.length /\ i = .int .i64 k /\ (∀ j : Nat,j < k -> xs[j]? = ys[j]?) /\ Below w.heap.size w wr) (fun i _ => xs.length - (intOf i).toNat)
   case atStart => exact ⟨0,Nat.zero_le _,rfl,fun j h => absurd h (Nat.not_lt_zero _),Below.refl _ _⟩
   case round =>
    obtain ⟨k,hk,rfl,hr,hbl⟩ := hrel
    have HR := hid hr
    have hsz := hbl.size
    clear hr
    by_cases hlt2 : k < xs.length
    ·obtain ⟨x,hx⟩ : ∃ x,xs[k]? = some x := ⟨_,List.getElem?_eq_getElem hlt2⟩
     obtain ⟨y,hy⟩ : ∃ y,ys[k]? = some y := ⟨_,List.getElem?_eq_getElem (by omega)⟩
     have hcls := (sP_at (HC.out k x hx)).below hbl hlt
     obtain ⟨s0,⟨s1,s2⟩,s3⟩ := x
     obtain ⟨hs0,hs1,hs2,hs3⟩ := CellsAt.four hcls
     dsimp only at hs0 hs1 hs2 hs3
     have hclt := (sP_at (HD.out k y hy)).below hbl hlt'
     obtain ⟨t0,⟨t1,t2⟩,t3⟩ := y
     obtain ⟨ht0,ht1,ht2,ht3⟩ := CellsAt.four hclt
     dsimp only at ht0 ht1 ht2 ht3
     have HX := hid hx
     have HY := hid hy
     clear hx hy hcls hclt
     by_cases e : s0 = t0
     ·subst e
      by_cases e : s1 = t1
      ·subst e
       by_cases e : s2 = t2
       ·subst e
        by_cases e : s3 = t3
        ·subst e
         have HS : Hid (∀ j : Nat,j < k + 1 -> xs[j]? = ys[j]?) := hid (by
          intro j hj
          by_cases e : j = k
          ·subst e; rw [HX.out,HY.out]
          ·exact HR.out j (by omega))
         go_wp2_with fail
         go_quiet (fail)
         go_wp2_with fail
         go_roundw
         case rel => exact ⟨k + 1,by omega,by go_num,HS.out,by repeat (first | assumption | refine below_drewN ?_ _ | refine Below.drew ?_ | refine Below.alloc ?_ (by omega) _)⟩
         case measure => simp [intOf]; omega
        ·have HF : Hid (eqA xs ys = false) := hid (eqA_ne HX.out HY.out (fun h => e (by simp only [Prod.mk.injEq] at h; simp [h])))
         have e2 : (s3 == t3) = false := by rw [beq_eq_false_iff_ne]; exact e
         go_wp2_with fail
         go_quiet (fail)
         go_wp2_with fail
         go_ret
         exact ⟨D.ret_bool HF.out.symm,by repeat (first | assumption | refine below_drewN ?_ _ | refine Below.drew ?_ | refine Below.alloc ?_ (by omega) _)⟩
       ·have HF : Hid (eqA xs ys = false) := hid (eqA_ne HX.out HY.out (fun h => e (by simp only [Prod.mk.injEq] at h; simp [h])))
        have e1 : ¬ s2.toList = t2.toList := fun h => e (toList_inj h)
        have e2 : (s2.toList == t2.toList) = false := by rw [beq_eq_false_iff_ne]; exact e1
        clear e
        go_wp2_with fail
        go_quiet (fail)
        go_wp2_with fail
        go_ret
        exact ⟨D.ret_bool HF.out.symm,by repeat (first | assumption | refine below_drewN ?_ _ | refine Below.drew ?_ | refine Below.alloc ?_ (by omega) _)⟩
      ·have HF : Hid (eqA xs ys = false) := hid (eqA_ne HX.out HY.out (fun h => e (by simp only [Prod.mk.injEq] at h; simp [h])))
       have e2 : (s1 == t1) = false := by rw [beq_eq_false_iff_ne]; exact e
       go_wp2_with fail
       go_quiet (fail)
       go_wp2_with fail
       go_ret
       exact ⟨D.ret_bool HF.out.symm,by repeat (first | assumption | refine below_drewN ?_ _ | refine Below.drew ?_ | refine Below.alloc ?_ (by omega) _)⟩
     ·have HF : Hid (eqA xs ys = false) := hid (eqA_ne HX.out HY.out (fun h => e (by simp only [Prod.mk.injEq] at h; simp [h])))
      have e1 : ¬ s0.toList = t0.toList := fun h => e (toList_inj h)
      have e2 : (s0.toList == t0.toList) = false := by rw [beq_eq_false_iff_ne]; exact e1
      clear e
      go_wp2_with fail
      go_quiet (fail)
      go_wp2_with fail
      go_ret
      exact ⟨D.ret_bool HF.out.symm,by repeat (first | assumption | refine below_drewN ?_ _ | refine Below.drew ?_ | refine Below.alloc ?_ (by omega) _)⟩
    ·have HF : Hid (eqA xs ys = true) := hid (eqA_get HL.out (fun i hi => HR.out i (by omega)))
     go_wp2_with fail
     go_ret
     exact ⟨D.ret_bool HF.out.symm,hbl⟩
 ·have HF := hid (eqA_len hl)
  have hnn : (((xs.length : Nat) : Int) != (ys.length : Nat)) = true := by rw [bne_iff_ne]; omega
  clear hr hr2 hcap hdap
  go_enter Tryz.func85,Tryz.ntmps85
  go_wp2_with fail
  go_ret
  exact ⟨D.ret_bool HF.out.symm,Below.refl _ _⟩
theorem eq_hnd (ok ok' : Nat -> Prop) (va vb : Value) (xs ys : List Hnd) (w : World) (hr : RdX 4 (sP hndC) ok w va xs) (hr2 : RdX 4 (sP hndC) ok' w vb ys) (hm : xs.length <= 1000000) (hm2 : ys.length <= 1000000) :
  Calls Tryz.prog 134 #[va,vb] w fun e w' => e = .returned (.bool (eqA xs ys)) /\ Below w.heap.size w w' := by
 obtain ⟨p,cap,rfl,hcap⟩ := hr.len
 obtain ⟨q,dap,rfl,hdap⟩ := hr2.len
 by_cases hl : xs.length = ys.length
 ·have HL := hid hl
  have hnn : (((xs.length : Nat) : Int) != (ys.length : Nat)) = false := by rw [bne_eq_false_iff_eq]; omega
  by_cases h0 : xs = []
  ·subst h0
   have h1 : ys = [] := List.eq_nil_of_length_eq_zero (by simpa using hl.symm)
   subst h1
   clear hl hcap hdap hr hr2 hnn
   go_enter Tryz.func134,Tryz.ntmps134
   go_wp2_with fail
   go_loop [13] (fun i => i = .int .i64 0) (fun _ => 0)
   case atStart => exact rfl
   case round =>
    obtain rfl := hrel
    go_wp2_with fail
    go_ret
    exact ⟨D.ret_bool (eqA_self _).symm,Below.refl _ _⟩
  ·have h1 : ys ≠ [] := fun e => h0 (List.eq_nil_of_length_eq_zero (by rw [hl,e]; rfl))
   obtain ⟨b,off,rfl,-,-,hok,hlt,hc⟩ := hr.place h0
   obtain ⟨d,ofd,rfl,-,-,hok2,hlt',hc'⟩ := hr2.place h1
   have HC := hid hc
   have HD := hid hc'
   have hl1 : xs.length <= ys.length := by omega
   have hl2 : ys.length <= xs.length := by omega
   clear hc hc' hr hr2 hcap hdap h0 h1 hl
   go_enter Tryz.func134,Tryz.ntmps134
   go_wp2_with fail
   go_loopw [13] (fun i wr => ∃ k : Nat,k <= xs.length /\ i = .int .i64 k /\ (∀ j : Nat,j < k -> xs[j]? = ys[j]?) /\ Below w.heap.size w wr) (fun i _ => xs.length - (intOf i).toNat)
   case atStart => exact ⟨0,Nat.zero_le _,rfl,fun j h => absurd h (Nat.not_lt_zero _),Below.refl _ _⟩
   case round =>
    obtain ⟨k,hk,rfl,hr,hbl⟩ := hrel
    have HR := hid hr
    have hsz := hbl.size
    clear hr
    by_cases hlt2 : k < xs.length
    ·obtain ⟨x,hx⟩ : ∃ x,xs[k]? = some x := ⟨_,List.getElem?_eq_getElem hlt2⟩
     obtain ⟨y,hy⟩ : ∃ y,ys[k]? = some y := ⟨_,List.getElem?_eq_getElem (by omega)⟩
     have hcls := (sP_at (HC.out k x hx)).below hbl hlt
     obtain ⟨s0,s1,s2,s3⟩ := x
     obtain ⟨hs0,hs1,hs2,hs3⟩ := CellsAt.four hcls
     dsimp only at hs0 hs1 hs2 hs3
     have hclt := (sP_at (HD.out k y hy)).below hbl hlt'
     obtain ⟨t0,t1,t2,t3⟩ := y
     obtain ⟨ht0,ht1,ht2,ht3⟩ := CellsAt.four hclt
     dsimp only at ht0 ht1 ht2 ht3
     have HX := hid hx
     have HY := hid hy
     clear hx hy hcls hclt
     by_cases e : s0 = t0
     ·subst e
      by_cases e : s1 = t1
      ·subst e
       by_cases e : s2 = t2
       ·subst e
        by_cases e : s3 = t3
        ·subst e
         have HS : Hid (∀ j : Nat,j < k + 1 -> xs[j]? = ys[j]?) := hid (by
          intro j hj
          by_cases e : j = k
          ·subst e; rw [HX.out,HY.out]
          ·exact HR.out j (by omega))
         go_wp2_with fail
         go_quiet (fail)
         go_wp2_with fail
         go_roundw
         case rel => exact ⟨k + 1,by omega,by go_num,HS.out,by repeat (first | assumption | refine below_drewN ?_ _ | refine Below.drew ?_ | refine Below.alloc ?_ (by omega) _)⟩
         case measure => simp [intOf]; omega
        ·have HF : Hid (eqA xs ys = false) := hid (eqA_ne HX.out HY.out (fun h => e (by simp only [Prod.mk.injEq] at h; simp [h])))
         have e1 : ¬ s3.toList = t3.toList := fun h => e (toList_inj h)
         have e2 : (s3.toList == t3.toList) = false := by rw [beq_eq_false_iff_ne]; exact e1
         clear e
         go_wp2_with fail
         go_quiet (fail)
         go_wp2_with fail
         go_ret
         exact ⟨D.ret_bool HF.out.symm,by repeat (first | assumption | refine below_drewN ?_ _ | refine Below.drew ?_ | refine Below.alloc ?_ (by omega) _)⟩
       ·have HF : Hid (eqA xs ys = false) := hid (eqA_ne HX.out HY.out (fun h => e (by simp only [Prod.mk.injEq] at h; simp [h])))
        have e2 : (s2 == t2) = false := by rw [beq_eq_false_iff_ne]; exact e
        go_wp2_with fail
        go_quiet (fail)
        go_wp2_with fail
        go_ret
        exact ⟨D.ret_bool HF.out.symm,by repeat (first | assumption | refine below_drewN ?_ _ | refine Below.drew ?_ | refine Below.alloc ?_ (by omega) _)⟩
      ·have HF : Hid (eqA xs ys = false) := hid (eqA_ne HX.out HY.out (fun h => e (by simp only [Prod.mk.injEq] at h; simp [h])))
       have e2 : (s1 == t1) = false := by rw [beq_eq_false_iff_ne]; exact e
       go_wp2_with fail
       go_quiet (fail)
       go_wp2_with fail
       go_ret
       exact ⟨D.ret_bool HF.out.symm,by repeat (first | assumption | refine below_drewN ?_ _ | refine Below.drew ?_ | refine Below.alloc ?_ (by omega) _)⟩
     ·have HF : Hid (eqA xs ys = false) := hid (eqA_ne HX.out HY.out (fun h => e (by simp only [Prod.mk.injEq] at h; simp [h])))
      have e2 : (s0 == t0) = false := by rw [beq_eq_false_iff_ne]; exact e
      go_wp2_with fail
      go_quiet (fail)
      go_wp2_with fail
      go_ret
      exact ⟨D.ret_bool HF.out.symm,by repeat (first | assumption | refine below_drewN ?_ _ | refine Below.drew ?_ | refine Below.alloc ?_ (by omega) _)⟩
    ·have HF : Hid (eqA xs ys = true) := hid (eqA_get HL.out (fun i hi => HR.out i (by omega)))
     go_wp2_with fail
     go_ret
     exact ⟨D.ret_bool HF.out.symm,hbl⟩
 ·have HF := hid (eqA_len hl)
  have hnn : (((xs.length : Nat) : Int) != (ys.length : Nat)) = true := by rw [bne_iff_ne]; omega
  clear hr hr2 hcap hdap
  go_enter Tryz.func134,Tryz.ntmps134
  go_wp2_with fail
  go_ret
  exact ⟨D.ret_bool HF.out.symm,Below.refl _ _⟩
end Go.Proofs.YtijnimjmimeefaaGreat.A
namespace Go.Proofs.YtijnimjmimeefaaGreat.A
open Go.RowKit Go.Proofs.YtijnimjmimeefaaGreat.D Go.Proofs.YtijnimjmimeefaaGreat.O
def bdM (m : Mth) : Prop := m.params.length <= 1000000 /\ m.code.length <= 1000000 /\ m.hs.length <= 1000000
def bdC (c : Cls) : Prop := c.ifaces.length <= 1000000 /\ c.fields.length <= 1000000 /\ c.methods.length <= 1000000 /\ ∀ m ∈ c.methods,bdM m
def bdA (a : Arch) : Prop := a.length <= 1000000 /\ ∀ c ∈ a,bdC c
theorem formed_bd {a : Arch} (h : formedB a = true) : bdA a := by
 unfold formedB at h
 rw [allB_iff] at h
 refine ⟨by omega,fun c hc => ?_⟩
 have h2 := h.2 c hc
 unfold clsB at h2
 simp only [Bool.and_eq_true,allB_iff] at h2
 refine ⟨by omega,by omega,by omega,fun m hm => ?_⟩
 have h3 := h2.2.2 m hm
 unfold mthB at h3
 simp only [Bool.and_eq_true,allB_iff] at h3
 exact ⟨by omega,by omega,by omega⟩
theorem boxed2 {w w1 : World} {vs us : List Value} {T U : TypeId} (hb : Below ((w.alloc (.cells vs.toArray T)).alloc (.cells us.toArray U)).heap.size ((w.alloc (.cells vs.toArray T)).alloc (.cells us.toArray U)) w1) :
  CellsAt w1 w.heap.size 0 vs /\ CellsAt w1 (w.heap.size + 1) 0 us /\ w.heap.size + 1 < w1.heap.size /\ Below w.heap.size w w1 := by
 have a0 := boxed (w := w) (vs := vs) (T := T) (w1 := w1) (((Below.refl _ _).alloc (Nat.le_refl _) _).trans (hb.mono (by simp)))
 have a1 := boxed (w := w.alloc (.cells vs.toArray T)) (vs := us) (T := U) (w1 := w1) hb
 have hs : (w.alloc (.cells vs.toArray T)).heap.size = w.heap.size + 1 := by simp
 rw [hs] at a1
 exact ⟨a0.1,a1.1,a1.2.1,a0.2.2⟩
theorem boxed2_next {w w1 w2 : World} {b : Nat} {vs us : List Value} (h : CellsAt w1 b 0 vs /\ CellsAt w1 (b + 1) 0 us /\ b + 1 < w1.heap.size /\ Below w.heap.size w w1) (hb : Below w1.heap.size w1 w2) :
  CellsAt w2 b 0 vs /\ CellsAt w2 (b + 1) 0 us /\ b + 1 < w2.heap.size /\ Below w.heap.size w w2 :=
 ⟨h.1.below hb (by omega),h.2.1.below hb h.2.2.1,Nat.lt_of_lt_of_le h.2.2.1 hb.size,h.2.2.2.trans (hb.mono h.2.2.2.size)⟩
theorem sameMethod_any (n n' c c' : ByteArray) (ps ps' : List Ty) (k k' lo lo' : Int) (s s' b b' : Bool) (co co' : List Ins) (hs hs' : List Hnd) (ok ok' : Nat -> Prop) (pp pp' pc pc' ph ph' : Option Addr) (np np' nc nc' nh nh' cp cp' cc cc' ch ch' : Nat) (w : World)
  (hz : bdM (⟨n,ps,(k,c),s,b,lo,co,hs⟩ : Mth)) (hz' : bdM (⟨n',ps',(k',c'),s',b',lo',co',hs'⟩ : Mth))
  (hp : RdX 2 (sP tyC) ok w (.slice pp np cp) ps) (hp' : RdX 2 (sP tyC) ok' w (.slice pp' np' cp') ps') (hc : RdX 7 (sP insC) ok w (.slice pc nc cc) co) (hc' : RdX 7 (sP insC) ok' w (.slice pc' nc' cc') co') (hh : RdX 4 (sP hndC) ok w (.slice ph nh ch) hs) (hh' : RdX 4 (sP hndC) ok' w (.slice ph' nh' ch') hs') :
  Calls Tryz.prog 87 #[.agg #[.string n,.slice pp np cp,.int .i64 k,.string c,.bool s,.bool b,.int .i64 lo,.slice pc nc cc,.slice ph nh ch],.agg #[.string n',.slice pp' np' cp',.int .i64 k',.string c',.bool s',.bool b',.int .i64 lo',.slice pc' nc' cc',.slice ph' nh' ch']] w fun e w' => e = .returned (.bool (eqA (⟨n,ps,(k,c),s,b,lo,co,hs⟩ : Mth) (⟨n',ps',(k',c'),s',b',lo',co',hs'⟩ : Mth))) /\ Below w.heap.size w w' := by
 obtain ⟨z1,z2,z3⟩ := hz
 obtain ⟨z1',z2',z3'⟩ := hz'
 have HP : ∀ w',Below w.heap.size w w' -> Calls Tryz.prog 131 #[.slice pp np cp,.slice pp' np' cp'] w' fun e w2 => e = .returned (.bool (eqA ps ps')) /\ Below w'.heap.size w' w2 := fun w' hW => (D.same_any _ _ ps ps' w' (rdT_of (hp.any (sP.grow _) hW)) (rdT_of (hp'.any (sP.grow _) hW)) z1 z1').mono (by
  rintro e w2 ⟨rfl,hb⟩
  exact ⟨D.ret_bool (eqA_dec _ _),hb⟩)
 have HC : ∀ w',Below w.heap.size w w' -> Calls Tryz.prog 132 #[.slice pc nc cc,.slice pc' nc' cc',.func (.func 133) #[] #[]] w' fun e w2 => e = .returned (.bool (eqA co co')) /\ Below w'.heap.size w' w2 := fun w' hW => eqf_ins ok ok' _ _ co co' w' (hc.any (sP.grow _) hW) (hc'.any (sP.grow _) hW) z2 z2' (by
  rintro ⟨o,n,k,s,c,m,d⟩ - ⟨o',n',k',s',c',m',d'⟩ - vs us w2 rfl rfl -
  refine (samev_any o n k o' n' k' s c m d s' c' m' d' w2).mono ?_
  rintro e w3 ⟨rfl,hb⟩
  exact ⟨D.ret_bool (eqA_dec _ _),hb⟩)
 have HH : ∀ w',Below w.heap.size w w' -> Calls Tryz.prog 134 #[.slice ph nh ch,.slice ph' nh' ch'] w' fun e w2 => e = .returned (.bool (eqA hs hs')) /\ Below w'.heap.size w' w2 := fun w' hW => eq_hnd ok ok' _ _ hs hs' w' (hh.any (sP.grow _) hW) (hh'.any (sP.grow _) hW) z3 z3'
 have HPh := hid HP
 have HCh := hid HC
 have HHh := hid HH
 have hA : Below w.heap.size w ((w.alloc (.cells #[.string n,.slice pp np cp,.int .i64 k,.string c,.bool s,.bool b,.int .i64 lo,.slice pc nc cc,.slice ph nh ch] 59)).alloc (.cells #[.string n',.slice pp' np' cp',.int .i64 k',.string c',.bool s',.bool b',.int .i64 lo',.slice pc' nc' cc',.slice ph' nh' ch'] 59)) := ((Below.refl _ w).alloc (Nat.le_refl _) _).alloc (by simp) _
 clear HP HC HH hp hp' hc hc' hh hh' z1 z2 z3 z1' z2' z3'
 by_cases e0 : n = n'
 ·subst e0
  by_cases e1 : k = k'
  ·subst e1
   by_cases e2 : c = c'
   ·subst e2
    cases h3 : eqA ps ps' with
    | false =>
     have HF : Hid (eqA (⟨n,ps,(k,c),s,b,lo,co,hs⟩ : Mth) (⟨n,ps',(k,c),s',b',lo',co',hs'⟩ : Mth) = false) := hid (eqA_no (fun hh => (eqA_split h3).2 rfl (by simp only [Mth.mk.injEq,Prod.mk.injEq] at hh; simp [hh])))
     go_enter Tryz.func87,Tryz.ntmps87
     try simp only [List.append_eq,List.cons_append,List.nil_append]
     go_wp2_with fail
     refine (HPh.out _ hA).mono ?_
     rintro e w1 ⟨rfl,hb1⟩
     have hx1 := boxed2 (vs := [.string n,.slice pp np cp,.int .i64 k,.string c,.bool s,.bool b,.int .i64 lo,.slice pc nc cc,.slice ph nh ch]) (us := [.string n,.slice pp' np' cp',.int .i64 k,.string c,.bool s',.bool b',.int .i64 lo',.slice pc' nc' cc',.slice ph' nh' ch']) hb1
     obtain ⟨q1_0,q1_1,q1_2,q1_3,q1_4,q1_5,q1_6,q1_7,q1_8⟩ := z9 hx1.1
     obtain ⟨r1_0,r1_1,r1_2,r1_3,r1_4,r1_5,r1_6,r1_7,r1_8⟩ := z9 hx1.2.1
     have hB := hx1.2.2.2
     have hlt1 := hx1.2.2.1
     go_wp2_with fail
     go_ret
     exact ⟨D.ret_bool HF.out.symm,hB⟩
    | true =>
     by_cases e4 : s = s'
     ·subst e4
      by_cases e5 : b = b'
      ·subst e5
       by_cases e6 : lo = lo'
       ·subst e6
        cases h7 : eqA co co' with
        | false =>
         have HF : Hid (eqA (⟨n,ps,(k,c),s,b,lo,co,hs⟩ : Mth) (⟨n,ps',(k,c),s,b,lo,co',hs'⟩ : Mth) = false) := hid (eqA_no (fun hh => (eqA_split h7).2 rfl (by simp only [Mth.mk.injEq,Prod.mk.injEq] at hh; simp [hh])))
         go_enter Tryz.func87,Tryz.ntmps87
         try simp only [List.append_eq,List.cons_append,List.nil_append]
         go_wp2_with fail
         refine (HPh.out _ hA).mono ?_
         rintro e w1 ⟨rfl,hb1⟩
         have hx1 := boxed2 (vs := [.string n,.slice pp np cp,.int .i64 k,.string c,.bool s,.bool b,.int .i64 lo,.slice pc nc cc,.slice ph nh ch]) (us := [.string n,.slice pp' np' cp',.int .i64 k,.string c,.bool s,.bool b,.int .i64 lo,.slice pc' nc' cc',.slice ph' nh' ch']) hb1
         obtain ⟨q1_0,q1_1,q1_2,q1_3,q1_4,q1_5,q1_6,q1_7,q1_8⟩ := z9 hx1.1
         obtain ⟨r1_0,r1_1,r1_2,r1_3,r1_4,r1_5,r1_6,r1_7,r1_8⟩ := z9 hx1.2.1
         have hB := hx1.2.2.2
         have hlt1 := hx1.2.2.1
         go_wp2_with fail
         refine (HCh.out _ hB).mono ?_
         rintro e w2 ⟨rfl,hb2⟩
         have hx2 := boxed2_next hx1 hb2
         obtain ⟨q2_0,q2_1,q2_2,q2_3,q2_4,q2_5,q2_6,q2_7,q2_8⟩ := z9 hx2.1
         obtain ⟨r2_0,r2_1,r2_2,r2_3,r2_4,r2_5,r2_6,r2_7,r2_8⟩ := z9 hx2.2.1
         have hB := hx2.2.2.2
         have hlt2 := hx2.2.2.1
         go_wp2_with fail
         go_ret
         exact ⟨D.ret_bool HF.out.symm,hB⟩
        | true =>
         cases h8 : eqA hs hs' with
         | false =>
          have HF : Hid (eqA (⟨n,ps,(k,c),s,b,lo,co,hs⟩ : Mth) (⟨n,ps',(k,c),s,b,lo,co',hs'⟩ : Mth) = false) := hid (eqA_no (fun hh => (eqA_split h8).2 rfl (by simp only [Mth.mk.injEq,Prod.mk.injEq] at hh; simp [hh])))
          go_enter Tryz.func87,Tryz.ntmps87
          try simp only [List.append_eq,List.cons_append,List.nil_append]
          go_wp2_with fail
          refine (HPh.out _ hA).mono ?_
          rintro e w1 ⟨rfl,hb1⟩
          have hx1 := boxed2 (vs := [.string n,.slice pp np cp,.int .i64 k,.string c,.bool s,.bool b,.int .i64 lo,.slice pc nc cc,.slice ph nh ch]) (us := [.string n,.slice pp' np' cp',.int .i64 k,.string c,.bool s,.bool b,.int .i64 lo,.slice pc' nc' cc',.slice ph' nh' ch']) hb1
          obtain ⟨q1_0,q1_1,q1_2,q1_3,q1_4,q1_5,q1_6,q1_7,q1_8⟩ := z9 hx1.1
          obtain ⟨r1_0,r1_1,r1_2,r1_3,r1_4,r1_5,r1_6,r1_7,r1_8⟩ := z9 hx1.2.1
          have hB := hx1.2.2.2
          have hlt1 := hx1.2.2.1
          go_wp2_with fail
          refine (HCh.out _ hB).mono ?_
          rintro e w2 ⟨rfl,hb2⟩
          have hx2 := boxed2_next hx1 hb2
          obtain ⟨q2_0,q2_1,q2_2,q2_3,q2_4,q2_5,q2_6,q2_7,q2_8⟩ := z9 hx2.1
          obtain ⟨r2_0,r2_1,r2_2,r2_3,r2_4,r2_5,r2_6,r2_7,r2_8⟩ := z9 hx2.2.1
          have hB := hx2.2.2.2
          have hlt2 := hx2.2.2.1
          go_wp2_with fail
          refine (HHh.out _ hB).mono ?_
          rintro e w3 ⟨rfl,hb3⟩
          have hx3 := boxed2_next hx2 hb3
          obtain ⟨q3_0,q3_1,q3_2,q3_3,q3_4,q3_5,q3_6,q3_7,q3_8⟩ := z9 hx3.1
          obtain ⟨r3_0,r3_1,r3_2,r3_3,r3_4,r3_5,r3_6,r3_7,r3_8⟩ := z9 hx3.2.1
          have hB := hx3.2.2.2
          have hlt3 := hx3.2.2.1
          go_wp2_with fail
          go_ret
          exact ⟨D.ret_bool HF.out.symm,hB⟩
         | true =>
          have HF : Hid (eqA (⟨n,ps,(k,c),s,b,lo,co,hs⟩ : Mth) (⟨n,ps',(k,c),s,b,lo,co',hs'⟩ : Mth) = true) := hid (eqA_iff.2 (by rw [(eqA_split h3).1 rfl,(eqA_split h7).1 rfl,(eqA_split h8).1 rfl]))
          go_enter Tryz.func87,Tryz.ntmps87
          try simp only [List.append_eq,List.cons_append,List.nil_append]
          go_wp2_with fail
          refine (HPh.out _ hA).mono ?_
          rintro e w1 ⟨rfl,hb1⟩
          have hx1 := boxed2 (vs := [.string n,.slice pp np cp,.int .i64 k,.string c,.bool s,.bool b,.int .i64 lo,.slice pc nc cc,.slice ph nh ch]) (us := [.string n,.slice pp' np' cp',.int .i64 k,.string c,.bool s,.bool b,.int .i64 lo,.slice pc' nc' cc',.slice ph' nh' ch']) hb1
          obtain ⟨q1_0,q1_1,q1_2,q1_3,q1_4,q1_5,q1_6,q1_7,q1_8⟩ := z9 hx1.1
          obtain ⟨r1_0,r1_1,r1_2,r1_3,r1_4,r1_5,r1_6,r1_7,r1_8⟩ := z9 hx1.2.1
          have hB := hx1.2.2.2
          have hlt1 := hx1.2.2.1
          go_wp2_with fail
          refine (HCh.out _ hB).mono ?_
          rintro e w2 ⟨rfl,hb2⟩
          have hx2 := boxed2_next hx1 hb2
          obtain ⟨q2_0,q2_1,q2_2,q2_3,q2_4,q2_5,q2_6,q2_7,q2_8⟩ := z9 hx2.1
          obtain ⟨r2_0,r2_1,r2_2,r2_3,r2_4,r2_5,r2_6,r2_7,r2_8⟩ := z9 hx2.2.1
          have hB := hx2.2.2.2
          have hlt2 := hx2.2.2.1
          go_wp2_with fail
          refine (HHh.out _ hB).mono ?_
          rintro e w3 ⟨rfl,hb3⟩
          have hx3 := boxed2_next hx2 hb3
          obtain ⟨q3_0,q3_1,q3_2,q3_3,q3_4,q3_5,q3_6,q3_7,q3_8⟩ := z9 hx3.1
          obtain ⟨r3_0,r3_1,r3_2,r3_3,r3_4,r3_5,r3_6,r3_7,r3_8⟩ := z9 hx3.2.1
          have hB := hx3.2.2.2
          have hlt3 := hx3.2.2.1
          go_wp2_with fail
          go_ret
          exact ⟨D.ret_bool HF.out.symm,hB⟩
       ·have HF : Hid (eqA (⟨n,ps,(k,c),s,b,lo,co,hs⟩ : Mth) (⟨n,ps',(k,c),s,b,lo',co',hs'⟩ : Mth) = false) := hid (eqA_no (fun hh => e6 (by simp only [Mth.mk.injEq,Prod.mk.injEq] at hh; simp [hh])))
        have e2 : (lo == lo') = false := by rw [beq_eq_false_iff_ne]; exact e6
        go_enter Tryz.func87,Tryz.ntmps87
        try simp only [List.append_eq,List.cons_append,List.nil_append]
        go_wp2_with fail
        refine (HPh.out _ hA).mono ?_
        rintro e w1 ⟨rfl,hb1⟩
        have hx1 := boxed2 (vs := [.string n,.slice pp np cp,.int .i64 k,.string c,.bool s,.bool b,.int .i64 lo,.slice pc nc cc,.slice ph nh ch]) (us := [.string n,.slice pp' np' cp',.int .i64 k,.string c,.bool s,.bool b,.int .i64 lo',.slice pc' nc' cc',.slice ph' nh' ch']) hb1
        obtain ⟨q1_0,q1_1,q1_2,q1_3,q1_4,q1_5,q1_6,q1_7,q1_8⟩ := z9 hx1.1
        obtain ⟨r1_0,r1_1,r1_2,r1_3,r1_4,r1_5,r1_6,r1_7,r1_8⟩ := z9 hx1.2.1
        have hB := hx1.2.2.2
        have hlt1 := hx1.2.2.1
        go_wp2_with fail
        go_ret
        exact ⟨D.ret_bool HF.out.symm,hB⟩
      ·have HF : Hid (eqA (⟨n,ps,(k,c),s,b,lo,co,hs⟩ : Mth) (⟨n,ps',(k,c),s,b',lo',co',hs'⟩ : Mth) = false) := hid (eqA_no (fun hh => e5 (by simp only [Mth.mk.injEq,Prod.mk.injEq] at hh; simp [hh])))
       have e2 : (b == b') = false := by rw [beq_eq_false_iff_ne]; exact e5
       go_enter Tryz.func87,Tryz.ntmps87
       try simp only [List.append_eq,List.cons_append,List.nil_append]
       go_wp2_with fail
       refine (HPh.out _ hA).mono ?_
       rintro e w1 ⟨rfl,hb1⟩
       have hx1 := boxed2 (vs := [.string n,.slice pp np cp,.int .i64 k,.string c,.bool s,.bool b,.int .i64 lo,.slice pc nc cc,.slice ph nh ch]) (us := [.string n,.slice pp' np' cp',.int .i64 k,.string c,.bool s,.bool b',.int .i64 lo',.slice pc' nc' cc',.slice ph' nh' ch']) hb1
       obtain ⟨q1_0,q1_1,q1_2,q1_3,q1_4,q1_5,q1_6,q1_7,q1_8⟩ := z9 hx1.1
       obtain ⟨r1_0,r1_1,r1_2,r1_3,r1_4,r1_5,r1_6,r1_7,r1_8⟩ := z9 hx1.2.1
       have hB := hx1.2.2.2
       have hlt1 := hx1.2.2.1
       go_wp2_with fail
       go_ret
       exact ⟨D.ret_bool HF.out.symm,hB⟩
     ·have HF : Hid (eqA (⟨n,ps,(k,c),s,b,lo,co,hs⟩ : Mth) (⟨n,ps',(k,c),s',b',lo',co',hs'⟩ : Mth) = false) := hid (eqA_no (fun hh => e4 (by simp only [Mth.mk.injEq,Prod.mk.injEq] at hh; simp [hh])))
      have e2 : (s == s') = false := by rw [beq_eq_false_iff_ne]; exact e4
      go_enter Tryz.func87,Tryz.ntmps87
      try simp only [List.append_eq,List.cons_append,List.nil_append]
      go_wp2_with fail
      refine (HPh.out _ hA).mono ?_
      rintro e w1 ⟨rfl,hb1⟩
      have hx1 := boxed2 (vs := [.string n,.slice pp np cp,.int .i64 k,.string c,.bool s,.bool b,.int .i64 lo,.slice pc nc cc,.slice ph nh ch]) (us := [.string n,.slice pp' np' cp',.int .i64 k,.string c,.bool s',.bool b',.int .i64 lo',.slice pc' nc' cc',.slice ph' nh' ch']) hb1
      obtain ⟨q1_0,q1_1,q1_2,q1_3,q1_4,q1_5,q1_6,q1_7,q1_8⟩ := z9 hx1.1
      obtain ⟨r1_0,r1_1,r1_2,r1_3,r1_4,r1_5,r1_6,r1_7,r1_8⟩ := z9 hx1.2.1
      have hB := hx1.2.2.2
      have hlt1 := hx1.2.2.1
      go_wp2_with fail
      go_ret
      exact ⟨D.ret_bool HF.out.symm,hB⟩
   ·have HF : Hid (eqA (⟨n,ps,(k,c),s,b,lo,co,hs⟩ : Mth) (⟨n,ps',(k,c'),s',b',lo',co',hs'⟩ : Mth) = false) := hid (eqA_no (fun hh => e2 (by simp only [Mth.mk.injEq,Prod.mk.injEq] at hh; simp [hh])))
    have e1 : ¬ c.toList = c'.toList := fun h => e2 (toList_inj h)
    have e2 : (c.toList == c'.toList) = false := by rw [beq_eq_false_iff_ne]; exact e1
    clear e2
    go_enter Tryz.func87,Tryz.ntmps87
    try simp only [List.append_eq,List.cons_append,List.nil_append]
    go_wp2_with fail
    go_ret
    exact ⟨D.ret_bool HF.out.symm,hA⟩
  ·have HF : Hid (eqA (⟨n,ps,(k,c),s,b,lo,co,hs⟩ : Mth) (⟨n,ps',(k',c'),s',b',lo',co',hs'⟩ : Mth) = false) := hid (eqA_no (fun hh => e1 (by simp only [Mth.mk.injEq,Prod.mk.injEq] at hh; simp [hh])))
   have e2 : (k == k') = false := by rw [beq_eq_false_iff_ne]; exact e1
   go_enter Tryz.func87,Tryz.ntmps87
   try simp only [List.append_eq,List.cons_append,List.nil_append]
   go_wp2_with fail
   go_ret
   exact ⟨D.ret_bool HF.out.symm,hA⟩
 ·have HF : Hid (eqA (⟨n,ps,(k,c),s,b,lo,co,hs⟩ : Mth) (⟨n',ps',(k',c'),s',b',lo',co',hs'⟩ : Mth) = false) := hid (eqA_no (fun hh => e0 (by simp only [Mth.mk.injEq,Prod.mk.injEq] at hh; simp [hh])))
  have e1 : ¬ n.toList = n'.toList := fun h => e0 (toList_inj h)
  have e2 : (n.toList == n'.toList) = false := by rw [beq_eq_false_iff_ne]; exact e1
  clear e0
  go_enter Tryz.func87,Tryz.ntmps87
  try simp only [List.append_eq,List.cons_append,List.nil_append]
  go_wp2_with fail
  go_ret
  exact ⟨D.ret_bool HF.out.symm,hA⟩
theorem same_mth_hf (ms ms' : List Mth) (hz : ∀ m ∈ ms,bdM m) (hz' : ∀ m ∈ ms',bdM m) (ok ok' : Nat -> Prop) (w : World) : ∀ x ∈ ms,∀ y ∈ ms',∀ vs us w',mP ok w' vs x -> mP ok' w' us y -> Below w.heap.size w w' ->
  Calls Tryz.prog 87 #[.agg vs.toArray,.agg us.toArray] w' fun e w'' => e = .returned (.bool (eqA x y)) /\ Below w'.heap.size w' w'' := by
 rintro x hx y hy vs us w' ⟨vp,vc,vh,rfl,h1,h2,h3⟩ ⟨up,uc,uh,rfl,k1,k2,k3⟩ -
 obtain ⟨_,_,rfl,-⟩ := h1.len
 obtain ⟨_,_,rfl,-⟩ := h2.len
 obtain ⟨_,_,rfl,-⟩ := h3.len
 obtain ⟨_,_,rfl,-⟩ := k1.len
 obtain ⟨_,_,rfl,-⟩ := k2.len
 obtain ⟨_,_,rfl,-⟩ := k3.len
 exact sameMethod_any x.name y.name x.ret.2 y.ret.2 x.params y.params x.ret.1 y.ret.1 x.locals y.locals x.st y.st x.ab y.ab x.code y.code x.hs y.hs ok ok' _ _ _ _ _ _ _ _ _ _ _ _ _ _ _ _ _ _ w' (hz x hx) (hz' y hy) h1 k1 h2 k2 h3 k3
theorem strsC {ok : Nat -> Prop} {w : World} {b off : Nat} {xs : List ByteArray} (h : ∀ (i : Nat) x,xs[i]? = some x -> ∃ vs,sP strC ok w vs x /\ CellsAt w b (off + i * 1) vs) : ∀ j,j < xs.length -> w.cell? ⟨b,off + j,none⟩ = some (.string (xs.getD j ByteArray.empty)) := by
 intro j hj
 have := (sP_at (h j _ (List.getElem?_eq_getElem hj))).one
 rw [Nat.mul_one] at this
 rw [this,List.getD_eq_getElem?_getD,List.getElem?_eq_getElem hj]
 rfl
theorem eq_str (ok ok' : Nat -> Prop) (va vb : Value) (xs ys : List ByteArray) (w : World) (hr : RdX 1 (sP strC) ok w va xs) (hr2 : RdX 1 (sP strC) ok' w vb ys) (hm : xs.length <= 1000000) (hm2 : ys.length <= 1000000) :
  Calls Tryz.prog 84 #[va,vb] w fun e w' => e = .returned (.bool (eqA xs ys)) /\ Below w.heap.size w w' := by
 obtain ⟨p,cap,rfl,hcap⟩ := hr.len
 obtain ⟨q,dap,rfl,hdap⟩ := hr2.len
 by_cases hl : xs.length = ys.length
 ·by_cases h0 : xs = []
  ·subst h0
   have h1 : ys = [] := List.eq_nil_of_length_eq_zero (by simpa using hl.symm)
   subst h1
   refine (Tryz.slices_Equal_string_empty p q cap 0 dap w (by decide)).mono ?_
   rintro e w' ⟨rfl,rfl⟩
   exact ⟨D.ret_bool (by rw [eqA_self]; simp),Below.refl _ _⟩
  ·have h1 : ys ≠ [] := fun e => h0 (List.eq_nil_of_length_eq_zero (by rw [hl,e]; rfl))
   obtain ⟨b,off,rfl,-,-,hok,hlt,hc⟩ := hr.place h0
   obtain ⟨d,ofd,rfl,-,-,hok2,hlt',hc'⟩ := hr2.place h1
   refine (Tryz.slices_Equal_string b off xs.length cap d ofd ys.length dap xs ys w (Nat.le_refl _) (Nat.le_refl _) (by omega) (by omega) (strsC hc) (strsC hc')).mono ?_
   rintro e w' ⟨rfl,q,rfl⟩
   exact ⟨D.ret_bool (by rw [List.take_length,List.take_length]; exact eqA_dec _ _),below_drewN (Below.refl _ _) _⟩
 ·refine (Tryz.slices_Equal_string_lens p q xs.length cap ys.length dap w hl).mono ?_
  rintro e w' ⟨rfl,rfl⟩
  exact ⟨D.ret_bool (eqA_len hl).symm,Below.refl _ _⟩
theorem sameClass_any (n n' u u' : ByteArray) (is is' : List ByteArray) (k k' : Int) (fs fs' : List Fld) (ms ms' : List Mth) (ok ok' : Nat -> Prop) (pi pi' pf pf' pm pm' : Option Addr) (ni ni' nf nf' nm nm' ci ci' cf cf' cm cm' : Nat) (w : World)
  (hz : bdC (⟨n,u,is,k,fs,ms⟩ : Cls)) (hz' : bdC (⟨n',u',is',k',fs',ms'⟩ : Cls))
  (hi : RdX 1 (sP strC) ok w (.slice pi ni ci) is) (hi' : RdX 1 (sP strC) ok' w (.slice pi' ni' ci') is') (hf : RdX 4 (sP fldC) ok w (.slice pf nf cf) fs) (hf' : RdX 4 (sP fldC) ok' w (.slice pf' nf' cf') fs') (hm : RdX 9 mP ok w (.slice pm nm cm) ms) (hm' : RdX 9 mP ok' w (.slice pm' nm' cm') ms') :
  Calls Tryz.prog 43 #[.agg #[.string n,.string u,.slice pi ni ci,.int .i64 k,.slice pf nf cf,.slice pm nm cm],.agg #[.string n',.string u',.slice pi' ni' ci',.int .i64 k',.slice pf' nf' cf',.slice pm' nm' cm']] w fun e w' => e = .returned (.bool (eqA (⟨n,u,is,k,fs,ms⟩ : Cls) (⟨n',u',is',k',fs',ms'⟩ : Cls))) /\ Below w.heap.size w w' := by
 obtain ⟨z1,z2,z3,z4⟩ := hz
 obtain ⟨z1',z2',z3',z4'⟩ := hz'
 have HI : ∀ w',Below w.heap.size w w' -> Calls Tryz.prog 84 #[.slice pi ni ci,.slice pi' ni' ci'] w' fun e w2 => e = .returned (.bool (eqA is is')) /\ Below w'.heap.size w' w2 := fun w' hW => eq_str ok ok' _ _ is is' w' (hi.any (sP.grow _) hW) (hi'.any (sP.grow _) hW) z1 z1'
 have HF0 : ∀ w',Below w.heap.size w w' -> Calls Tryz.prog 85 #[.slice pf nf cf,.slice pf' nf' cf'] w' fun e w2 => e = .returned (.bool (eqA fs fs')) /\ Below w'.heap.size w' w2 := fun w' hW => eq_fld ok ok' _ _ fs fs' w' (hf.any (sP.grow _) hW) (hf'.any (sP.grow _) hW) z2 z2'
 have HM : ∀ w',Below w.heap.size w w' -> Calls Tryz.prog 86 #[.slice pm nm cm,.slice pm' nm' cm',.func (.func 87) #[] #[]] w' fun e w2 => e = .returned (.bool (eqA ms ms')) /\ Below w'.heap.size w' w2 := fun w' hW => eqf_mth ok ok' _ _ ms ms' w' (hm.any mP.grow hW) (hm'.any mP.grow hW) z3 z3' (same_mth_hf ms ms' z4 z4' ok ok' w')
 have HIh := hid HI
 have HFh := hid HF0
 have HMh := hid HM
 have hA : Below w.heap.size w ((w.alloc (.cells #[.string n,.string u,.slice pi ni ci,.int .i64 k,.slice pf nf cf,.slice pm nm cm] 52)).alloc (.cells #[.string n',.string u',.slice pi' ni' ci',.int .i64 k',.slice pf' nf' cf',.slice pm' nm' cm'] 52)) := ((Below.refl _ w).alloc (Nat.le_refl _) _).alloc (by simp) _
 clear HI HF0 HM hi hi' hf hf' hm hm' z1 z2 z3 z4 z1' z2' z3' z4'
 by_cases e0 : n = n'
 ·subst e0
  by_cases e1 : u = u'
  ·subst e1
   by_cases e2 : k = k'
   ·subst e2
    cases h3 : eqA is is' with
    | false =>
     have HF : Hid (eqA (⟨n,u,is,k,fs,ms⟩ : Cls) (⟨n,u,is',k,fs',ms'⟩ : Cls) = false) := hid (eqA_no (fun hh => (eqA_split h3).2 rfl (by simp only [Cls.mk.injEq] at hh; simp [hh])))
     go_enter Tryz.func43,Tryz.ntmps43
     try simp only [List.append_eq,List.cons_append,List.nil_append]
     go_wp2_with fail
     refine (HIh.out _ hA).mono ?_
     rintro e w1 ⟨rfl,hb1⟩
     have hx1 := boxed2 (vs := [.string n,.string u,.slice pi ni ci,.int .i64 k,.slice pf nf cf,.slice pm nm cm]) (us := [.string n,.string u,.slice pi' ni' ci',.int .i64 k,.slice pf' nf' cf',.slice pm' nm' cm']) hb1
     obtain ⟨q1_0,q1_1,q1_2,q1_3,q1_4,q1_5⟩ := z6 hx1.1
     obtain ⟨r1_0,r1_1,r1_2,r1_3,r1_4,r1_5⟩ := z6 hx1.2.1
     have hB := hx1.2.2.2
     have hlt1 := hx1.2.2.1
     go_wp2_with fail
     go_ret
     exact ⟨D.ret_bool HF.out.symm,hB⟩
    | true =>
     cases h4 : eqA fs fs' with
     | false =>
      have HF : Hid (eqA (⟨n,u,is,k,fs,ms⟩ : Cls) (⟨n,u,is',k,fs',ms'⟩ : Cls) = false) := hid (eqA_no (fun hh => (eqA_split h4).2 rfl (by simp only [Cls.mk.injEq] at hh; simp [hh])))
      go_enter Tryz.func43,Tryz.ntmps43
      try simp only [List.append_eq,List.cons_append,List.nil_append]
      go_wp2_with fail
      refine (HIh.out _ hA).mono ?_
      rintro e w1 ⟨rfl,hb1⟩
      have hx1 := boxed2 (vs := [.string n,.string u,.slice pi ni ci,.int .i64 k,.slice pf nf cf,.slice pm nm cm]) (us := [.string n,.string u,.slice pi' ni' ci',.int .i64 k,.slice pf' nf' cf',.slice pm' nm' cm']) hb1
      obtain ⟨q1_0,q1_1,q1_2,q1_3,q1_4,q1_5⟩ := z6 hx1.1
      obtain ⟨r1_0,r1_1,r1_2,r1_3,r1_4,r1_5⟩ := z6 hx1.2.1
      have hB := hx1.2.2.2
      have hlt1 := hx1.2.2.1
      go_wp2_with fail
      refine (HFh.out _ hB).mono ?_
      rintro e w2 ⟨rfl,hb2⟩
      have hx2 := boxed2_next hx1 hb2
      obtain ⟨q2_0,q2_1,q2_2,q2_3,q2_4,q2_5⟩ := z6 hx2.1
      obtain ⟨r2_0,r2_1,r2_2,r2_3,r2_4,r2_5⟩ := z6 hx2.2.1
      have hB := hx2.2.2.2
      have hlt2 := hx2.2.2.1
      go_wp2_with fail
      go_ret
      exact ⟨D.ret_bool HF.out.symm,hB⟩
     | true =>
      cases h5 : eqA ms ms' with
      | false =>
       have HF : Hid (eqA (⟨n,u,is,k,fs,ms⟩ : Cls) (⟨n,u,is',k,fs',ms'⟩ : Cls) = false) := hid (eqA_no (fun hh => (eqA_split h5).2 rfl (by simp only [Cls.mk.injEq] at hh; simp [hh])))
       go_enter Tryz.func43,Tryz.ntmps43
       try simp only [List.append_eq,List.cons_append,List.nil_append]
       go_wp2_with fail
       refine (HIh.out _ hA).mono ?_
       rintro e w1 ⟨rfl,hb1⟩
       have hx1 := boxed2 (vs := [.string n,.string u,.slice pi ni ci,.int .i64 k,.slice pf nf cf,.slice pm nm cm]) (us := [.string n,.string u,.slice pi' ni' ci',.int .i64 k,.slice pf' nf' cf',.slice pm' nm' cm']) hb1
       obtain ⟨q1_0,q1_1,q1_2,q1_3,q1_4,q1_5⟩ := z6 hx1.1
       obtain ⟨r1_0,r1_1,r1_2,r1_3,r1_4,r1_5⟩ := z6 hx1.2.1
       have hB := hx1.2.2.2
       have hlt1 := hx1.2.2.1
       go_wp2_with fail
       refine (HFh.out _ hB).mono ?_
       rintro e w2 ⟨rfl,hb2⟩
       have hx2 := boxed2_next hx1 hb2
       obtain ⟨q2_0,q2_1,q2_2,q2_3,q2_4,q2_5⟩ := z6 hx2.1
       obtain ⟨r2_0,r2_1,r2_2,r2_3,r2_4,r2_5⟩ := z6 hx2.2.1
       have hB := hx2.2.2.2
       have hlt2 := hx2.2.2.1
       go_wp2_with fail
       refine (HMh.out _ hB).mono ?_
       rintro e w3 ⟨rfl,hb3⟩
       have hx3 := boxed2_next hx2 hb3
       obtain ⟨q3_0,q3_1,q3_2,q3_3,q3_4,q3_5⟩ := z6 hx3.1
       obtain ⟨r3_0,r3_1,r3_2,r3_3,r3_4,r3_5⟩ := z6 hx3.2.1
       have hB := hx3.2.2.2
       have hlt3 := hx3.2.2.1
       go_wp2_with fail
       go_ret
       exact ⟨D.ret_bool HF.out.symm,hB⟩
      | true =>
       have HF : Hid (eqA (⟨n,u,is,k,fs,ms⟩ : Cls) (⟨n,u,is',k,fs',ms'⟩ : Cls) = true) := hid (eqA_iff.2 (by rw [(eqA_split h3).1 rfl,(eqA_split h4).1 rfl,(eqA_split h5).1 rfl]))
       go_enter Tryz.func43,Tryz.ntmps43
       try simp only [List.append_eq,List.cons_append,List.nil_append]
       go_wp2_with fail
       refine (HIh.out _ hA).mono ?_
       rintro e w1 ⟨rfl,hb1⟩
       have hx1 := boxed2 (vs := [.string n,.string u,.slice pi ni ci,.int .i64 k,.slice pf nf cf,.slice pm nm cm]) (us := [.string n,.string u,.slice pi' ni' ci',.int .i64 k,.slice pf' nf' cf',.slice pm' nm' cm']) hb1
       obtain ⟨q1_0,q1_1,q1_2,q1_3,q1_4,q1_5⟩ := z6 hx1.1
       obtain ⟨r1_0,r1_1,r1_2,r1_3,r1_4,r1_5⟩ := z6 hx1.2.1
       have hB := hx1.2.2.2
       have hlt1 := hx1.2.2.1
       go_wp2_with fail
       refine (HFh.out _ hB).mono ?_
       rintro e w2 ⟨rfl,hb2⟩
       have hx2 := boxed2_next hx1 hb2
       obtain ⟨q2_0,q2_1,q2_2,q2_3,q2_4,q2_5⟩ := z6 hx2.1
       obtain ⟨r2_0,r2_1,r2_2,r2_3,r2_4,r2_5⟩ := z6 hx2.2.1
       have hB := hx2.2.2.2
       have hlt2 := hx2.2.2.1
       go_wp2_with fail
       refine (HMh.out _ hB).mono ?_
       rintro e w3 ⟨rfl,hb3⟩
       have hx3 := boxed2_next hx2 hb3
       obtain ⟨q3_0,q3_1,q3_2,q3_3,q3_4,q3_5⟩ := z6 hx3.1
       obtain ⟨r3_0,r3_1,r3_2,r3_3,r3_4,r3_5⟩ := z6 hx3.2.1
       have hB := hx3.2.2.2
       have hlt3 := hx3.2.2.1
       go_wp2_with fail
       go_ret
       exact ⟨D.ret_bool HF.out.symm,hB⟩
   ·have HF : Hid (eqA (⟨n,u,is,k,fs,ms⟩ : Cls) (⟨n,u,is',k',fs',ms'⟩ : Cls) = false) := hid (eqA_no (fun hh => e2 (by simp only [Cls.mk.injEq] at hh; simp [hh])))
    have e2 : (k == k') = false := by rw [beq_eq_false_iff_ne]; exact e2
    go_enter Tryz.func43,Tryz.ntmps43
    try simp only [List.append_eq,List.cons_append,List.nil_append]
    go_wp2_with fail
    go_ret
    exact ⟨D.ret_bool HF.out.symm,hA⟩
  ·have HF : Hid (eqA (⟨n,u,is,k,fs,ms⟩ : Cls) (⟨n,u',is',k',fs',ms'⟩ : Cls) = false) := hid (eqA_no (fun hh => e1 (by simp only [Cls.mk.injEq] at hh; simp [hh])))
   have e1 : ¬ u.toList = u'.toList := fun h => e1 (toList_inj h)
   have e2 : (u.toList == u'.toList) = false := by rw [beq_eq_false_iff_ne]; exact e1
   clear e1
   go_enter Tryz.func43,Tryz.ntmps43
   try simp only [List.append_eq,List.cons_append,List.nil_append]
   go_wp2_with fail
   go_ret
   exact ⟨D.ret_bool HF.out.symm,hA⟩
 ·have HF : Hid (eqA (⟨n,u,is,k,fs,ms⟩ : Cls) (⟨n',u',is',k',fs',ms'⟩ : Cls) = false) := hid (eqA_no (fun hh => e0 (by simp only [Cls.mk.injEq] at hh; simp [hh])))
  have e1 : ¬ n.toList = n'.toList := fun h => e0 (toList_inj h)
  have e2 : (n.toList == n'.toList) = false := by rw [beq_eq_false_iff_ne]; exact e1
  clear e0
  go_enter Tryz.func43,Tryz.ntmps43
  try simp only [List.append_eq,List.cons_append,List.nil_append]
  go_wp2_with fail
  go_ret
  exact ⟨D.ret_bool HF.out.symm,hA⟩
theorem same_cls_hf (cs cs' : List Cls) (hz : ∀ c ∈ cs,bdC c) (hz' : ∀ c ∈ cs',bdC c) (ok ok' : Nat -> Prop) (w : World) : ∀ x ∈ cs,∀ y ∈ cs',∀ vs us w',cP ok w' vs x -> cP ok' w' us y -> Below w.heap.size w w' ->
  Calls Tryz.prog 43 #[.agg vs.toArray,.agg us.toArray] w' fun e w'' => e = .returned (.bool (eqA x y)) /\ Below w'.heap.size w' w'' := by
 rintro x hx y hy vs us w' ⟨vi,vf,vm,rfl,h1,h2,h3⟩ ⟨ui,uf,um,rfl,k1,k2,k3⟩ -
 obtain ⟨_,_,rfl,-⟩ := h1.len
 obtain ⟨_,_,rfl,-⟩ := h2.len
 obtain ⟨_,_,rfl,-⟩ := h3.len
 obtain ⟨_,_,rfl,-⟩ := k1.len
 obtain ⟨_,_,rfl,-⟩ := k2.len
 obtain ⟨_,_,rfl,-⟩ := k3.len
 exact sameClass_any x.name y.name x.super y.super x.ifaces y.ifaces x.kind y.kind x.fields y.fields x.methods y.methods ok ok' _ _ _ _ _ _ _ _ _ _ _ _ _ _ _ _ _ _ w' (hz x hx) (hz' y hy) h1 k1 h2 k2 h3 k3
theorem same_a (a b : Arch) (ok ok' : Nat -> Prop) (p q : Option Addr) (n n' c c' : Nat) (w : World) (hz : bdA a) (hz' : bdA b) (hr : RdA ok w (.slice p n c) a) (hr' : RdA ok' w (.slice q n' c') b) :
  Calls Tryz.prog 18 #[.agg #[.slice p n c],.agg #[.slice q n' c']] w fun e w' => e = .returned (.bool (eqA a b)) /\ Below w.heap.size w w' := by
 have hA : Below w.heap.size w ((w.alloc (.cells #[.slice p n c] 24)).alloc (.cells #[.slice q n' c'] 24)) := ((Below.refl _ w).alloc (Nat.le_refl _) _).alloc (by simp) _
 have H := hid (eqf_cls ok ok' _ _ a b _ (hr.any cP.grow hA) (hr'.any cP.grow hA) hz.1 hz'.1 (same_cls_hf a b hz.2 hz'.2 ok ok' _))
 clear hr hr'
 go_enter Tryz.func18,Tryz.ntmps18
 go_wp2_with fail
 refine H.out.mono ?_
 rintro e w1 ⟨rfl,hb1⟩
 have hB := hA.trans (hb1.mono hA.size)
 go_wp2_with fail
 go_ret
 exact ⟨rfl,hB⟩
end Go.Proofs.YtijnimjmimeefaaGreat.A
namespace Go.Proofs.YtijnimjmimeefaaGreat.A
open Go.RowKit Go.Proofs.YtijnimjmimeefaaGreat.D Go.Proofs.YtijnimjmimeefaaGreat.O
theorem knownS_sz : szA knownS := by unfold szA szC szM szI; decide +kernel
theorem knownS_wf : wfA knownS := by unfold wfA wfC wfM okI; decide +kernel
theorem knownS_small : small knownS := by unfold small; decide +kernel
theorem knownS_formed : formedB knownS = true := by
 have := knownS_right
 unfold rightA at this
 simp only [Bool.and_eq_true] at this
 exact this.1
theorem knownS_bd : bdA knownS := formed_bd knownS_formed
theorem knownS_len : 100 < (putA knownS).length /\ (putA knownS).length <= 1000000 := by decide +kernel
theorem knownS_take : (putA knownS).take 4 = [66,79,78,49] := by
 unfold putA
 rw [if_pos knownS_right]
 rfl
theorem bad_read : readA [66,79,78,50] = .error 21 := by unfold readA; rw [if_neg (by decide)]
def noneS : Cls := ⟨⟨#[]⟩,⟨#[]⟩,[],0,[],[]⟩
theorem noneS_right : rightA [noneS] = false := by decide +kernel
theorem noneS_sz : szA [noneS] := by unfold szA szC szM szI; decide +kernel
theorem noneS_wf : wfA [noneS] := by unfold wfA wfC wfM okI; decide +kernel
theorem noneS_small : small [noneS] := by unfold small; decide +kernel
theorem knownS_ne : ¬ knownS = [] := by decide +kernel
theorem bd_nil : bdA [] := ⟨by simp,by simp⟩
theorem copied_few {a : Arch} (h : bdA a) : FewA a := ⟨h.1,fun c hc => ⟨(h.2 c hc).1,(h.2 c hc).2.1,(h.2 c hc).2.2.1,fun m hm => (h.2 c hc).2.2.2 m hm⟩⟩
theorem rd_front {w : World} {p : Option Addr} {n c k : Nat} {l : List UInt8} (h : Rd w (.slice p n c) l) (hk : k <= l.length) : Rd w (.slice p k c) (l.take k) := by
 obtain ⟨p',cap,e,h1,h2,h3⟩ := h
 simp only [Value.slice.injEq] at e
 obtain ⟨rfl,rfl,rfl⟩ := e
 refine ⟨p,c,by rw [List.length_take,Nat.min_eq_left hk],by rw [List.length_take]; omega,h2,fun a ha i x hx => h3 a ha i x ?_⟩
 rw [List.getElem?_take] at hx
 split at hx
 ·exact hx
 ·cases hx
theorem rd_marked (w : World) (l : List UInt8) (n : Nat) (hn : n = l.length) (C : Array Value) (hC : C.toList = l.map u8) (fz : Nat × Nat) : Rd (w.alloc (.cells C 5 fz)) (.slice (some ⟨w.heap.size,0,none⟩) n n) l := by
 subst hn
 refine ⟨_,_,rfl,Nat.le_refl _,(fun e => by cases e),fun a ha i x hx => ?_⟩
 cases ha
 have h1 : (w.alloc (.cells C 5 fz)).heap[w.heap.size]? = some (.cells C 5 fz) := heap_alloc_new _ _
 have h2 : C[i]? = some (u8 x) := by rw [<- Array.getElem?_toList,hC,List.getElem?_map,hx]; rfl
 rw [Go.WideShapes.add_plain]
 unfold World.cell?
 simp only
 rw [h1]
 simpa using h2
def KS (ta tx : Nat) (pA : Option Addr) (nA cA : Nat) (pX : Option Addr) (nX cX : Nat) (pB : Option Addr) (nB cB : Nat) (w0 W : World) : Prop :=
 W.heap[ta]? = some (.cells #[.slice pA nA cA] 24 (0,0)) /\ W.heap[tx]? = some (.cells #[.slice pX nX cX] 24 (0,0)) /\ RdX 6 cP anyB W (.slice pA nA cA) knownS /\ RdX 6 cP anyB W (.slice pX nX cX) knownS /\
  Own W 0 (.slice pB nB cB) (putA knownS) /\ Glob W /\ Below w0.heap.size w0 W /\ w0.heap.size <= W.heap.size
theorem KS.next {ta tx nA cA nX cX nB cB : Nat} {pA pX pB : Option Addr} {w0 W W' : World} (h : KS ta tx pA nA cA pX nX cX pB nB cB w0 W) (hb : Below W.heap.size W W') : KS ta tx pA nA cA pX nX cX pB nB cB w0 W' := by
 obtain ⟨h1,h2,h3,h4,h5,h6,h7,h8⟩ := h
 exact ⟨(hb.block _ (Array.getElem?_eq_some_iff.1 h1).1).trans h1,(hb.block _ (Array.getElem?_eq_some_iff.1 h2).1).trans h2,h3.any cP.grow hb,h4.any cP.grow hb,h5.kpt (.of_below hb : Kpt [] W W') (fun _ _ => by simp),h6.below hb (Nat.le_refl _),h7.trans (hb.mono h8),Nat.le_trans h8 hb.size⟩
theorem KS.held {ta tx nA cA nX cX nB cB : Nat} {pA pX pB : Option Addr} {w0 W : World} (h : KS ta tx pA nA cA pX nX cX pB nB cB w0 W) : W.cell? ⟨ta,0,none⟩ = some (.slice pA nA cA) /\ W.cell? ⟨tx,0,none⟩ = some (.slice pX nX cX) := by
 constructor
 ·simp [World.cell?,h.1]
 ·simp [World.cell?,h.2.1]
theorem KS.four {ta tx nA cA nX cX nB cB : Nat} {pA pX pB : Option Addr} {w0 W : World} (h : KS ta tx pA nA cA pX nX cX pB nB cB w0 W) : (convert 26 9 (.slice pB 4 cB)).run Tryz.prog W = .ok (.string ⟨#[66,79,78,49]⟩) W := by
 have h1 := rd_front h.2.2.2.2.1.rd (k := 4) (by have := knownS_len.1; omega)
 rw [knownS_take] at h1
 exact conv_rd h1
theorem known_a (w : World) (hg : Glob w) : Calls Tryz.prog 9 #[] w fun e w' => e = .returned (.bool true) /\ Below w.heap.size w w' := by
 have HG := hid hg
 clear hg
 go_enter Tryz.func9,Tryz.ntmps9
 go_wp2_with fail
 have hb0 := below_alM w (.cells #[.int .u8 0,.int .u8 1,.int .u8 4,.int .u8 2] 5)
 obtain ⟨w1,hw1⟩ : ∃ x,x = w.alloc (.cells #[.int .u8 0,.int .u8 1,.int .u8 4,.int .u8 2] 5) := ⟨_,rfl⟩
 have hx1 : w1.heap[w.heap.size]? = some (.cells #[.int .u8 0,.int .u8 1,.int .u8 4,.int .u8 2] 5 (0,0)) := by rw [hw1]; exact heap_alloc_new _ _
 rw [<- hw1] at hb0
 rw [<- hw1]
 have hs1 : w1.heap.size = w.heap.size + 1 := by rw [hw1]; simp
 clear hw1
 have hrd : Rd w1 (.slice (some ⟨w.heap.size,0,none⟩) 4 4) [0,1,4,2] := by
  refine ⟨_,4,rfl,by simp,(fun e => by cases e),fun a ha i x hx => ?_⟩
  cases ha
  obtain ⟨-,hc,-⟩ := boxN hx1
  have := hc i (u8 x) (by match i,hx with | 0,h => cases h; rfl | 1,h => cases h; rfl | 2,h => cases h; rfl | 3,h => cases h; rfl)
  rwa [Go.WideShapes.add_plain]
 refine (archive_p 1 2 3 4 [0,1,4,2] [] _ _ w1 (by decide) (by decide) (by decide) (by decide) hrd (rd_nil _) (fun w' h => body_k _ (by decide) _ w' h (by decide)) (fun w' h => body_k _ (by decide) _ w' h (by decide)) (.inr (fun g e => by cases e; show w.heap.size < w1.heap.size; omega)) (.inl rfl)).mono ?_
 rintro e w2 ⟨pA,nA,cA,rfl,hr2,hb2⟩
 have hr2' : RdX 6 cP (fun b => w1.heap.size <= b) w2 (.slice pA nA cA) knownS := hr2
 have HR := hid hr2'
 have HB := hid (hb0.trans (hb2.mono hb0.size))
 have hs2 := hb2.size
 clear hr2 hr2' hb2 hb0 hrd hx1
 go_upto_region 2 with fail
 have hb3 := below_alM w2 (.cells #[.slice pA nA cA] 24)
 have HXA := hid (heap_alloc_new w2 (.cells #[.slice pA nA cA] 24))
 obtain ⟨w3,hw3⟩ : ∃ x,x = w2.alloc (.cells #[.slice pA nA cA] 24) := ⟨_,rfl⟩
 rw [<- hw3] at hb3 HXA
 rw [<- hw3]
 clear hw3
 obtain ⟨ta,hta⟩ : ∃ x,x = w2.heap.size := ⟨_,rfl⟩
 rw [<- hta] at HXA
 replace HR := hid (HR.out.any cP.grow hb3 (ok := _))
 replace HB := hid (HB.out.trans (hb3.mono HB.out.size))
 have hs3 := hb3.size
 rw [<- hta]
 clear hb3 hta
 obtain ⟨q1,q2,q3⟩ := boxN HXA.out
 have q4 := q2 0 _ rfl
 simp only [Nat.zero_add] at q4
 clear q2 q3
 go_wp2_with fail
 refine (put_a knownS _ pA nA cA w3 knownS_sz knownS_wf (fun _ => knownS_small) (HG.out.below HB.out (Nat.le_refl _)) HR.out).mono ?_
 rintro e w4 ⟨v,rfl,ho4,hb4⟩
 obtain ⟨pB,nB,cB,rfl⟩ := own_slice ho4
 replace HR := hid (HR.out.any cP.grow hb4 (ok := _))
 replace HB := hid (HB.out.trans (hb4.mono HB.out.size))
 replace HXA := hid ((hb4.block _ q1).trans HXA.out)
 have hs4 := hb4.size
 have HO := hid ho4
 clear hb4 ho4 q4
 go_wp2_with fail
 refine (read_a (.slice pB nB cB) (putA knownS) w4 HO.out.rd knownS_len.2 (HG.out.below HB.out (Nat.le_refl _))).mono ?_
 rintro e w5 ⟨hb5,hans⟩
 rw [read_put knownS_right knownS_wf] at hans
 obtain ⟨pX,nX,cX,rfl,hr5,-⟩ := hans
 replace HR := hid (HR.out.any cP.grow hb5 (ok := _))
 replace HB := hid (HB.out.trans (hb5.mono HB.out.size))
 replace HXA := hid ((hb5.block _ (by omega)).trans HXA.out)
 replace HO := hid (HO.out.kpt (.of_below hb5 : Kpt [] w4 w5) (fun _ _ => by simp))
 have hs5 := hb5.size
 have HX := hid hr5
 clear hb5 hr5
 go_upto_region 4 with fail
 have hb3 := below_alM w5 (.cells #[.slice pX nX cX] 24)
 have HXX := hid (heap_alloc_new w5 (.cells #[.slice pX nX cX] 24))
 obtain ⟨w6,hw6⟩ : ∃ x,x = w5.alloc (.cells #[.slice pX nX cX] 24) := ⟨_,rfl⟩
 rw [<- hw6] at hb3 HXX
 rw [<- hw6]
 clear hw6
 obtain ⟨tx,htx⟩ : ∃ x,x = w5.heap.size := ⟨_,rfl⟩
 rw [<- htx] at HXX
 rw [<- htx]
 have HK : Hid (KS ta tx pA nA cA pX nX cX pB nB cB w w6) := hid ⟨(hb3.block _ (by omega)).trans HXA.out,HXX.out,HR.out.step cP.grow (fun _ _ _ => trivial) (.of_below hb3) hb3.size,HX.out.step cP.grow (fun _ _ _ => trivial) (.of_below hb3) hb3.size,(HO.out.kpt (.of_below hb3 : Kpt [] w5 w6) (fun _ _ => by simp)).mono (Nat.zero_le _),HG.out.below (HB.out.trans (hb3.mono HB.out.size)) (Nat.le_refl _),HB.out.trans (hb3.mono HB.out.size),by have := hb3.size; omega⟩
 clear HR HX HO HB HXA HXX hb3 q1 htx hs1 hs2 hs3 hs4 hs5
 have hcs := Lib.run_convert_bytes_const w6 26 5 #[.int .u8 66,.int .u8 79,.int .u8 78,.int .u8 50] 4 4 Tryz.underlying26 Tryz.underlying5
 go_wp2_with fail
 clear hcs
 have hrd4 := rd_marked w6 [66,79,78,50] 4 rfl #[.int .u8 66,.int .u8 79,.int .u8 78,.int .u8 50] rfl (4,5)
 have hk4 := HK.out.next (below_alM w6 (.cells #[.int .u8 66,.int .u8 79,.int .u8 78,.int .u8 50] 5 (4,5)))
 refine (read_a _ [66,79,78,50] _ hrd4 (by decide) hk4.2.2.2.2.2.1).mono ?_
 rintro e w7 ⟨hb7,hans⟩
 rw [bad_read] at hans
 simp only at hans
 subst hans
 replace HK := hid (hk4.next hb7)
 clear hk4 hrd4 hb7
 go_upto_region 5 with fail
 obtain ⟨w8,hw8⟩ : ∃ x,x = w7.alloc (.cells #[.slice none 0 0] 24) := ⟨_,rfl⟩
 rw [<- hw8]
 replace HK : Hid (KS ta tx pA nA cA pX nX cX pB nB cB w w8) := hid (by rw [hw8]; exact HK.out.next (below_alM _ _))
 clear hw8
 replace HK := hid (HK.out.next (below_drU w8))
 have hlb := HK.out.2.2.2.2.1.len
 obtain ⟨a1,c1,e1,hle,-⟩ := hlb
 simp only [Value.slice.injEq] at e1
 obtain ⟨-,rfl,rfl⟩ := e1
 have hlen := knownS_len.1
 have hcap : (4 : Int) <= (cB : Int) := by omega
 have hgt : (100 : Int) < ((putA knownS).length : Int) := by omega
 refine wp_region_held_drew (S := fun W => W.cell? ⟨ta,0,none⟩ = some (.slice pA nA cA) /\ W.cell? ⟨tx,0,none⟩ = some (.slice pX nX cX)) (by kernel_rfl) HK.out.held (fun hh => ?_)
 refine tkA 0 _ hh ?_
 try go_frame
 refine tkA 1 _ hh ?_
 try go_frame
 refine tkA 2 _ hh ?_
 try go_frame
 refine tkA 3 _ hh ?_
 try go_frame
 refine tkA 4 _ hh ?_
 try go_frame
 refine tkA 5 _ hh ?_
 try go_frame
 refine wpAnyH_and (T := fun W => (convert 26 9 (.slice pB 4 cB)).run Tryz.prog W = .ok (.string ⟨#[66,79,78,49]⟩) W) _ _ _ _ ?_
 replace hh := And.intro hh (HK.out.four)
 refine tkH 6 ?_ (fun W hSw => ?_) hh ?_
 rotate_left 1
 ·(have hT := hSw.2; clear hSw; first | (go_simp; done) | (go_simp; with_reducible rfl))
 try go_frame
 refine tkA 7 _ hh ?_
 try go_frame
 refine tkA 8 _ hh ?_
 try go_frame
 refine tkA 9 _ hh ?_
 try go_frame
 refine tkA 10 _ hh ?_
 try go_frame
 refine tkA 11 _ hh ?_
 try go_frame
 refine tkA 12 _ hh ?_
 try go_frame
 refine tkA 13 _ hh ?_
 try go_frame
 refine tkB 14 _ hh ?_
 try go_frame
 refine tkB 15 _ hh ?_
 try go_frame
 refine rdH [16] ?_
 refine rcH (fun K hK => ?_) AllReadyH.nil
 clear hh
 go_simp
 refine (same_a knownS knownS _ _ _ _ _ _ _ _ _ knownS_bd knownS_bd HK.out.2.2.2.1 HK.out.2.2.1).mono ?_
 rintro e x1 ⟨rfl,hbb⟩
 rw [eqA_self]
 replace HK := hid (HK.out.next hbb)
 clear hbb
 refine hK.out _ _ ⟨HK.out.held,HK.out.four⟩ (fun hh => ?_)
 clear hK K
 try go_frame
 refine tkA 17 _ hh ?_
 try go_frame
 refine tkA 18 _ hh ?_
 try go_frame
 refine tkA 19 _ hh ?_
 try go_frame
 refine tkA 20 _ hh ?_
 try go_frame
 refine tkA 21 _ hh ?_
 try go_frame
 refine tkA 22 _ hh ?_
 try go_frame
 refine tkB 23 _ hh ?_
 try go_frame
 refine rdH [24] ?_
 refine rcH (fun K hK => ?_) AllReadyH.nil
 clear hh
 go_simp
 refine (right_a knownS _ _ _ _ _ knownS_sz knownS_wf (fun _ => knownS_small) HK.out.2.2.2.2.2.1 HK.out.2.2.1).mono ?_
 rintro e x2 ⟨rfl,hbb⟩
 rw [knownS_right]
 replace HK := hid (HK.out.next hbb)
 clear hbb
 refine hK.out _ _ ⟨HK.out.held,HK.out.four⟩ (fun hh => ?_)
 clear hK K
 try go_frame
 refine tkA 25 _ hh ?_
 try go_frame
 refine tkA 26 _ hh ?_
 try go_frame
 refine tkB 27 _ hh ?_
 try go_frame
 refine tkB 29 _ hh ?_
 try go_frame
 refine rdH [28] ?_
 refine rcH (fun K hK => ?_) AllReadyH.nil
 clear hh
 go_simp
 refine (copy_v knownS _ _ _ _ HK.out.2.2.1 (copied_few knownS_bd)).mono ?_
 rintro e x3 ⟨pC,nC,cC,rfl,hrc,hbb⟩
 replace HK := hid (HK.out.next hbb)
 have HRC := hid (hrc.step (ok' := anyB) cP.grow (fun _ _ _ => trivial) (fun _ _ _ => rfl) (Nat.le_refl _))
 clear hbb hrc
 refine hK.out _ _ ⟨HK.out.held,HK.out.four⟩ (fun hh => ?_)
 clear hK K
 try go_frame
 refine rdH [30] ?_
 refine rcH (fun K hK => ?_) AllReadyH.nil
 clear hh
 go_simp
 refine (same_a knownS knownS _ _ _ _ _ _ _ _ _ knownS_bd knownS_bd HRC.out HK.out.2.2.1).mono ?_
 rintro e x4 ⟨rfl,hbb⟩
 rw [eqA_self]
 replace HK := hid (HK.out.next hbb)
 clear hbb HRC
 refine hK.out _ _ ⟨HK.out.held,HK.out.four⟩ (fun hh => ?_)
 clear hK K
 try go_frame
 refine tkA 31 _ hh ?_
 try go_frame
 refine tkA 32 _ hh ?_
 try go_frame
 refine tkB 33 _ hh ?_
 try go_frame
 refine tkA 34 _ hh ?_
 try go_frame
 refine rdH [35] ?_
 refine rcH (fun K hK => ?_) AllReadyH.nil
 clear hh
 go_simp
 refine (same_a knownS [] _ anyB _ _ _ _ _ _ _ knownS_bd bd_nil HK.out.2.2.1 (RdX.nil _ _ _ _)).mono ?_
 rintro e x5 ⟨rfl,hbb⟩
 rw [eqA_no knownS_ne]
 replace HK := hid (HK.out.next hbb)
 clear hbb
 refine hK.out _ _ ⟨HK.out.held,HK.out.four⟩ (fun hh => ?_)
 clear hK K
 try go_frame
 refine tkA 36 _ hh ?_
 try go_frame
 refine tkA 37 _ hh ?_
 try go_frame
 refine tkA 38 _ hh ?_
 try go_frame
 refine tkA 39 _ hh ?_
 try go_frame
 refine rdH [40] ?_
 refine rcH (fun K hK => ?_) AllReadyH.nil
 clear hh
 go_simp
 replace HK := hid (HK.out.next (below_alM _ (.cells #[.string ⟨#[]⟩,.string ⟨#[]⟩,.slice none 0 0,.int .i64 0,.slice none 0 0,.slice none 0 0] 52)))
 refine hK.out _ _ ⟨HK.out.held,HK.out.four⟩ (fun hh => ?_)
 clear hK K
 try go_frame
 refine tkA 41 _ hh ?_
 try go_frame
 refine rdH [42] ?_
 refine rcH (fun K hK => ?_) AllReadyH.nil
 clear hh
 go_simp
 have hrn := rd_lits2 (ok := anyB) (W := x5) shape_cls cP.grow (All2.cons (show cP anyB x5 [.string ⟨#[]⟩,.string ⟨#[]⟩,.slice none 0 0,.int .i64 0,.slice none 0 0,.slice none 0 0] noneS from ⟨_,_,_,rfl,RdX.nil _ _ _ _,RdX.nil _ _ _ _,RdX.nil _ _ _ _⟩) All2.nil) _ rfl 52 1 rfl trivial
 refine (right_a [noneS] _ _ _ _ _ noneS_sz noneS_wf (fun _ => noneS_small) HK.out.2.2.2.2.2.1 hrn).mono ?_
 rintro e x6 ⟨rfl,hbb⟩
 rw [noneS_right]
 replace HK := hid (HK.out.next hbb)
 clear hbb
 refine hK.out _ _ ⟨HK.out.held,HK.out.four⟩ (fun hh => ?_)
 clear hK K
 try go_frame
 refine tkA 43 _ hh ?_
 try go_frame
 refine tkA 44 _ hh ?_
 try go_frame
 refine tkA 45 _ hh ?_
 try go_frame
 refine wpAnyH_done (by kernel_rfl) ?_ _
 go_wp2_with fail
 go_ret
 exact ⟨rfl,HK.out.2.2.2.2.2.2.1⟩
end Go.Proofs.YtijnimjmimeefaaGreat.A
