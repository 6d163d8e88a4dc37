/- Texts that the proof is made of, joined. No condition. -/
import Derived.Test.YtfpeakkbbfnhcaaGreatC1310
import Derived.Test.YtfpeakkbbfnhcaaGreatC139
import Derived.Test.YtfpeakkbbfnhcaaGreatC135
import Derived.Deep.DeepCutAuto
import Derived.Deep.CutBlock
import Derived.Test.YtfpeakkbbfnhcaaGreatC131
import Derived.Test.YtfpeakkbbfnhcaaGreatC13H
set_option linter.unusedVariables false
set_option linter.unusedSimpArgs false
set_option maxRecDepth 100000
set_option maxHeartbeats 16000000
namespace Go.Proofs.YtfpeakkbbfnhcaaGreat.R
open Go.RowKit Go.Proofs.YtfpeakkbbfnhcaaGreat.D Go.Proofs.YtfpeakkbbfnhcaaGreat.O Go.Proofs.YtfpeakkbbfnhcaaGreat.A
theorem tyv_pair (a : Ty) : tyv a = .agg #[.int .i64 a.1,.string a.2] := rfl
theorem allT_len {T : List Sk} : ∀ {a b : List Ty},a.length = b.length -> (allT T a b).length = a.length
 | [],[],_ => rfl
 | x :: a,y :: b,h => by
  show (joinT T x y :: allT T a b).length = _
  rw [List.length_cons,List.length_cons,allT_len (by simpa using h)]
theorem allT_at {T : List Sk} : ∀ {a b : List Ty} {i : Nat} {x y : Ty},a[i]? = some x -> b[i]? = some y -> (allT T a b)[i]? = some (joinT T x y)
 | [],_,_,_,_,h,_ => by simp at h
 | _ :: _,[],_,_,_,_,h => by simp at h
 | x :: a,y :: b,0,_,_,h1,h2 => by
  simp only [List.getElem?_cons_zero,Option.some.injEq] at h1 h2
  subst h1
  subst h2
  rfl
 | x :: a,y :: b,i + 1,_,_,h1,h2 => by
  show (joinT T x y :: allT T a b)[i + 1]? = _
  rw [List.getElem?_cons_succ]
  exact allT_at (by simpa using h1) (by simpa using h2)
theorem fill_at {α : Type} {J Z : List α} {i : Nat} {z : α} (hl : J.length = Z.length) (hi : Z[i]? = some z) : (J.take i ++ Z.drop i)[i]? = some z := by
 have := (List.getElem?_eq_some_iff.1 hi).1
 rw [List.getElem?_append_right (by rw [List.length_take]; omega),List.length_take,show i - min i J.length = 0 by omega,List.getElem?_drop]
 simpa using hi
theorem fill_set {α : Type} {J Z : List α} {i : Nat} {y : α} (hl : J.length = Z.length) (hi : J[i]? = some y) : (J.take i ++ Z.drop i).set i y = J.take (i + 1) ++ Z.drop (i + 1) := by
 have hil := (List.getElem?_eq_some_iff.1 hi).1
 rw [List.set_append_right i y (by rw [List.length_take]; omega),List.length_take,show i - min i J.length = 0 by omega,List.take_add_one,hi,List.append_assoc,List.drop_eq_getElem_cons (by omega : i < Z.length)]
 rfl
theorem wp_mkT {w : World} {ops : Array Oper} {rest : List Oper} {o : Oper} {a : Act} {Q : Exit -> Act -> World -> Prop} (hgd : o.guard = none) (s x : Operand)
  (ho : o.op = Op.makeSlice 43 s x)
  (B : Nat) (L C : Int) (n : Nat) (hs : a.eval s = .int .i64 L) (hx : a.eval x = .int .i64 C) (hL : L = (n : Int)) (hC : C = (n : Int)) (hn : n <= 100000) (hbase : B <= w.heap.size)
  (h : ∀ w',OwnX 2 45 (sP tyC) w' B (.slice (some ⟨w.heap.size,0,none⟩) n n) (List.replicate n ((0,⟨#[]⟩) : Ty)) -> Below w.heap.size w w' -> wpList Tryz.prog ops Q rest (a.put o.dst (.slice (some ⟨w.heap.size,0,none⟩) n n)) w') :
  wpList Tryz.prog ops Q (o :: rest) a w := by
 obtain ⟨hi1,hu,hz,-,hbb⟩ := inf_typ
 obtain ⟨i0,hi,hz0,hz1,hz2⟩ := info_parts hi1
 refine wpList_make_full w hgd s x _ ho B 45 i0 _ 2 hu hi hz0 hz1 .i64 .i64 L C n hs hx hL hC (by
  have : i0.bytes * n <= 1000 * 100000 := Nat.mul_le_mul (by omega) hn
  omega) (by unfold maxLen; omega) hbase ?_
 intro w' hw hg
 refine h w' ⟨_,by rw [List.length_replicate]; exact hw,fun i y hy => ?_⟩ (Kpt.below (Kpt.of_grown (S := []) hg (fun g h => by cases h)) (by simp) (Nat.le_refl _))
 have hin : i < n := by have := (List.getElem?_eq_some_iff.1 hy).1; rwa [List.length_replicate] at this
 rw [List.getElem?_replicate,if_pos hin] at hy
 obtain rfl : (0,⟨#[]⟩) = y := Option.some.inj hy
 show _ = tyC _
 have h2 : (madeCells (Value.agg #[.int .i64 0,.string ⟨#[]⟩]).cells (n * 2)).toList.length = n * 2 := by rw [Array.length_toList,size_madeCells]
 have hat : ∀ j,j < n * 2 -> (madeCells (Value.agg #[.int .i64 0,.string ⟨#[]⟩]).cells (n * 2)).toList[j]? = some ((#[.int .i64 0,.string ⟨#[]⟩] : Array Value)[j % 2]!) := by
  intro j hj
  rw [Array.getElem?_toList]
  unfold madeCells
  rw [Array.getElem?_map,Array.getElem?_range,if_pos hj]
  rfl
 refine List.ext_getElem? (fun j => ?_)
 by_cases hj : j < 2
 ·rw [List.getElem?_take_of_lt hj,List.getElem?_drop,hat _ (by omega)]
  rcases (by omega : j = 0 ∨ j = 1) with rfl | rfl
  ·rw [show (i * 2 + 0) % 2 = 0 by omega]; rfl
  ·rw [show (i * 2 + 1) % 2 = 1 by omega]; rfl
 ·rw [List.getElem?_eq_none (by rw [List.length_take]; omega),List.getElem?_eq_none (by show 2 <= j; omega)]
theorem own_put2 {T : TypeId} {w : World} {B : Nat} {v : Value} {xs : List Ty} (h : OwnX 2 T (sP tyC) w B v xs) {i : Nat} {x : Ty} (hi : xs[i]? = some x) (y : Ty) :
  ∃ g cap,v = .slice (some ⟨g,0,none⟩) xs.length cap /\ xs.length <= cap /\ B <= g /\ g < w.heap.size /\ (∀ k,w.frozen? ⟨g,k,none⟩ = false) /\ (∀ k u',(tyC x)[k]? = some u' -> w.cell? ⟨g,i * 2 + k,none⟩ = some u') /\
   OwnX 2 T (sP tyC) ((w.setCell ⟨g,i * 2,none⟩ (.int .i64 y.1)).setCell ⟨g,i * 2 + 1,none⟩ (.string y.2)) B v (xs.set i y) := by
 obtain ⟨x0,x1⟩ := x
 obtain ⟨y0,y1⟩ := y
 have hil := (List.getElem?_eq_some_iff.1 hi).1
 obtain ⟨g,cap,e,hle,hB,hg,hf,hc,h1⟩ := h.put1 (j := 0) (y := (y0,x1)) (u := .int .i64 y0) hi (by decide) rfl
 obtain ⟨g2,cap2,e2,-,-,-,-,-,h2⟩ := h1.put1 (i := i) (j := 1) (y := (y0,y1)) (u := .string y1) (List.getElem?_set_self hil) (by decide) rfl
 rw [e] at e2
 simp only [Value.slice.injEq,Option.some.injEq,Addr.mk.injEq,and_true] at e2
 obtain ⟨rfl,-,-⟩ := e2
 rw [List.set_set] at h2
 exact ⟨g,cap,e,hle,hB,hg,hf,hc,h2⟩
theorem cells2_kpt {W W' : World} {g r o : Nat} {vs : List Value} (h : CellsAt W g o vs) (hg : g < W.heap.size) (hk : Kpt [r] W W') (hne : g ≠ r) : CellsAt W' g o vs := fun j u hu => by
 have e := hk.2 g hg (by simpa using hne)
 rw [<- h j u hu]
 simp only [World.cell?,e]
theorem All_n (ok ok1 ok2 : Nat -> Prop) (vt : Value) (K : List Cls) (va vb : Value) (a b : List Ty) (w : World) (h : TrN w ok vt K) (hra : RdX 2 (sP tyC) ok1 w va a) (hrb : RdX 2 (sP tyC) ok2 w vb b) (hza : ∀ t ∈ a,t.2.size <= maxLen) (hzb : ∀ t ∈ b,t.2.size <= maxLen) (hla : a.length <= 100000) :
  Calls Tryz.prog 160 #[vt,va,vb] w fun e w' => ∃ v,e = .returned (.tuple #[v,.bool (decide (a.length = b.length))]) /\ OwnX 2 45 (sP tyC) w' w.heap.size v (if a.length = b.length then allT (K.map skOf) a b else []) /\ Below w.heap.size w w' := by
 obtain ⟨pa,ca,rfl,hca⟩ := hra.len
 obtain ⟨pb,cb,rfl,hcb⟩ := hrb.len
 by_cases hl : a.length = b.length
 ·rw [decide_eq_true hl,if_pos hl]
  obtain ⟨n,hn⟩ : ∃ n,a.length = n := ⟨_,rfl⟩
  rw [<- hl] at hrb hcb ⊢
  have HJL := hid ((allT_len (T := K.map skOf) hl).trans hn)
  have HLA := hid hn
  have HLB := hid (hl.symm.trans hn)
  have HRA := hid hra
  have HRB := hid hrb
  have HZA := hid hza
  have HZB := hid hzb
  have HT := hid h
  rw [hn] at HRA HRB hla ⊢
  clear hca hcb hl hn hra hrb hza hzb h
  obtain ⟨J,hJ⟩ : ∃ J,allT (K.map skOf) a b = J := ⟨_,rfl⟩
  have HJ := hid hJ
  rw [hJ] at HJL ⊢
  clear hJ
  go_enter Tryz.func160,Tryz.ntmps160
  go_wp2_with (at_make; refine wp_mkT rfl _ _ rfl w.heap.size _ _ n rfl rfl ?c1 ?c2 ?c3 ?c4 ?_)
  case c1 => rfl
  case c2 => rfl
  case c3 => exact hla
  case c4 => exact Nat.le_refl _
  intro w1 ho hb1
  have HO := hid ho
  have HB := hid hb1
  clear ho hb1
  obtain ⟨g,hg⟩ : ∃ z,w.heap.size = z := ⟨_,rfl⟩
  have HG : Hid (w.heap.size <= g) := hid (by omega)
  rw [show (Value.slice (some ⟨w.heap.size,0,none⟩) n n) = .slice (some ⟨g,0,none⟩) n n by rw [hg]] at HO
  rw [hg]
  clear hg
  go_wp2_with fail
  go_loopw [20] (fun v wr => ∃ i : Nat,v = .int .i64 (i : Int) /\ i <= n /\ Hid (OwnX 2 45 (sP tyC) wr w.heap.size (.slice (some ⟨g,0,none⟩) n n) (J.take i ++ (List.replicate n ((0,⟨#[]⟩) : Ty)).drop i)) /\ Hid (Below w.heap.size w wr)) (fun x _ => n - (intOf x).toNat)
  case atStart => exact ⟨0,rfl,by omega,HO,HB⟩
  case round =>
   clear HO HB
   obtain ⟨i,rfl,hin,HO,HB⟩ := hrel
   by_cases hlt : i < n
   ·have hlt' : (i : Int) < (n : Int) := by omega
    obtain ⟨x,hx⟩ : ∃ x,a[i]? = some x := ⟨_,List.getElem?_eq_getElem (by have := HLA.out; omega)⟩
    obtain ⟨y,hy⟩ : ∃ y,b[i]? = some y := ⟨_,List.getElem?_eq_getElem (by have := HLB.out; omega)⟩
    have zx := hid (HZA.out x (List.mem_of_getElem? hx))
    have zy := hid (HZB.out y (List.mem_of_getElem? hy))
    have hj := allT_at (T := K.map skOf) hx hy
    rw [HJ.out] at hj
    have hZ : J.length = (List.replicate n ((0,⟨#[]⟩) : Ty)).length := by rw [List.length_replicate]; exact HJL.out
    have HAT := hid (fill_at (i := i) (z := ((0,⟨#[]⟩) : Ty)) hZ (by rw [List.getElem?_replicate,if_pos hlt]))
    have HJS := hid (fill_set hZ hj)
    obtain ⟨ba,oa,rfl,-,-,-,hga,hcca⟩ := (HRA.out.any (sP.grow _) HB.out).place (fun e => by rw [e] at hx; simp at hx)
    obtain ⟨bb,ob,rfl,-,-,-,hgc,hccb⟩ := (HRB.out.any (sP.grow _) HB.out).place (fun e => by rw [e] at hy; simp at hy)
    have HCA := hid (sP_at (hcca i x hx))
    have HCC := hid (sP_at (hccb i y hy))
    have hga0 : ba < w.heap.size := by obtain ⟨_,_,e,_,_,_,h,_⟩ := HRA.out.place (fun e => by rw [e] at hx; simp at hx); cases e; exact h
    have hgb0 : bb < w.heap.size := by obtain ⟨_,_,e,_,_,_,h,_⟩ := HRB.out.place (fun e => by rw [e] at hy; simp at hy); cases e; exact h
    have HNA : Hid (ba ≠ g) := hid (by have := HG.out; omega)
    have HNC : Hid (bb ≠ g) := hid (by have := HG.out; omega)
    have HGA := hid hga
    have HGC := hid hgc
    clear hga0 hgb0 hga hgc hcca hccb hx hy hj hZ
    go_upto_region 7 with fail
    replace HO : Hid (OwnX 2 45 (sP tyC) wr.drew _ _ _) := hid HO.out
    replace HB := hid HB.out.drew
    replace HCA : Hid (CellsAt wr.drew _ _ _) := hid HCA.out
    replace HCC : Hid (CellsAt wr.drew _ _ _) := hid HCC.out
    replace HGA : Hid (ba < wr.drew.heap.size) := hid HGA.out
    replace HGC : Hid (bb < wr.drew.heap.size) := hid HGC.out
    refine wp_region_held_drew (S := fun W => (W.cell? ⟨ba,oa + i * 2,none⟩ = some (.int .i64 x.1) /\ W.cell? ⟨ba,oa + i * 2 + 1,none⟩ = some (.string x.2)) /\ (W.cell? ⟨bb,ob + i * 2,none⟩ = some (.int .i64 y.1) /\ W.cell? ⟨bb,ob + i * 2 + 1,none⟩ = some (.string y.2))) (by kernel_rfl) (by first | exact ⟨HCA.out.two,HCC.out.two⟩ | exact ⟨(cells2_kpt HCA.out HGA.out (set2_kpt _ _ _ _ _ _) HNA.out).two,(cells2_kpt HCC.out HGC.out (set2_kpt _ _ _ _ _ _) HNC.out).two⟩) (fun hh => ?_)
    refine tkA 0 _ hh ?_
    try go_frame
    refine tkA 1 _ hh ?_
    try go_frame
    refine tkA 2 _ hh ?_
    try go_frame
    refine tkA 3 _ hh ?_
    try go_frame
    refine tkA 4 _ hh ?_
    try go_frame
    refine tkA 5 _ hh ?_
    try go_frame
    refine tkB 6 _ hh ?_
    try go_frame
    refine tkA 7 _ hh ?_
    try go_frame
    refine tkA 8 _ hh ?_
    try go_frame
    refine tkA 9 _ hh ?_
    try go_frame
    refine tkB 10 _ hh ?_
    try go_frame
    refine rdH [11] ?_
    refine AllReadyH.cons (o := _) (by simp only [List.getElem?_toArray,List.getElem?_cons_succ,List.getElem?_cons_zero]; rfl) (fun KX hKX => ?_) AllReadyH.nil
    clear hh
    go_simp
    refine (Join_n ok vt K x y _ (HT.out.below HB.out) zx.out zy.out).mono ?_
    rw [tyv_pair]
    rintro e wn ⟨rfl,hbn⟩
    replace HO := hid (HO.out.kptS (.of_below hbn : Kpt [] _ _) (fun _ _ => by simp))
    replace HB := hid (HB.out.trans (hbn.mono HB.out.size))
    replace HCA := hid (HCA.out.below hbn HGA.out)
    replace HGA := hid (Nat.lt_of_lt_of_le HGA.out hbn.size)
    replace HCC := hid (HCC.out.below hbn HGC.out)
    replace HGC := hid (Nat.lt_of_lt_of_le HGC.out hbn.size)
    clear hbn
    refine hKX.out _ _ (by first | exact ⟨HCA.out.two,HCC.out.two⟩ | exact ⟨(cells2_kpt HCA.out HGA.out (set2_kpt _ _ _ _ _ _) HNA.out).two,(cells2_kpt HCC.out HGC.out (set2_kpt _ _ _ _ _ _) HNC.out).two⟩) (fun hh => ?_)
    clear hKX KX
    try go_frame
    refine tkA 12 _ hh ?_
    try go_frame
    refine rdH [13] ?_
    refine AllReadyH.cons (o := _) (by simp only [List.getElem?_toArray,List.getElem?_cons_succ,List.getElem?_cons_zero]; rfl) (fun KX hKX => ?_) AllReadyH.nil
    clear hh
    obtain ⟨g',cap',e1,-,hgB,hgl,hgf,hgc,hput⟩ := own_put2 HO.out HAT.out (joinT (K.map skOf) x y)
    simp only [Value.slice.injEq,Option.some.injEq,Addr.mk.injEq,and_true] at e1
    obtain ⟨rfl,-,-⟩ := e1
    have u0 := hgc 0 _ rfl
    have u1 := hgc 1 _ rfl
    have f0 := hgf (i * 2)
    have f1 := hgf (i * 2 + 1)
    simp only [Nat.add_zero] at u0
    have HPUT := hid hput
    clear hgc hgf hput hgB
    go_simp
    refine hKX.out _ _ (by first | exact ⟨HCA.out.two,HCC.out.two⟩ | exact ⟨(cells2_kpt HCA.out HGA.out (set2_kpt _ _ _ _ _ _) HNA.out).two,(cells2_kpt HCC.out HGC.out (set2_kpt _ _ _ _ _ _) HNC.out).two⟩) (fun hh => ?_)
    clear hKX KX
    try go_frame
    refine wpAnyH_done (by kernel_rfl) ?_ _
    clear hh u0 u1 f0 f1
    obtain ⟨w7,hw7⟩ : ∃ z,z = (wn.setCell ⟨g,i * 2,none⟩ (.int .i64 (joinT (K.map skOf) x y).1)).setCell ⟨g,i * 2 + 1,none⟩ (.string (joinT (K.map skOf) x y).2) := ⟨_,rfl⟩
    replace HB := hid (HB.out.trans ((set2_bl (u := .int .i64 (joinT (K.map skOf) x y).1) (v := .string (joinT (K.map skOf) x y).2) (g := g) (o := i * 2) (o2 := i * 2 + 1) HG.out HB.out.size)))
    rw [<- hw7] at HPUT HB ⊢
    clear hw7 HO
    go_wp2_with fail
    go_roundw
    case rel => exact ⟨i + 1,by go_num,by omega,hid (by rw [<- HJS.out]; exact HPUT.out),HB⟩
    case measure => simp [intOf]; omega
   ·obtain rfl : i = n := by omega
    have hlt' : ¬ (i : Int) < (i : Int) := by omega
    go_wp2_with fail
    go_ret2
    refine ⟨_,rfl,?_,HB.out⟩
    have := HO.out
    rw [List.take_of_length_le (by have := HJL.out; omega),List.drop_of_length_le (by simp),List.append_nil] at this
    exact this
 ·rw [decide_eq_false hl,if_neg hl]
  have hl' : ¬ (a.length : Int) = (b.length : Int) := by omega
  have hl2 : ((a.length : Int) != (b.length : Int)) = true := by simpa using hl'
  clear hra hrb h
  go_enter Tryz.func160,Tryz.ntmps160
  go_wp2_with fail
  go_ret2
  exact ⟨_,rfl,OwnX.nil _ _ _ _ _,Below.refl _ _⟩
end Go.Proofs.YtfpeakkbbfnhcaaGreat.R
namespace Go.Proofs.YtfpeakkbbfnhcaaGreat.R
open Go.RowKit Go.Proofs.YtfpeakkbbfnhcaaGreat.D Go.Proofs.YtfpeakkbbfnhcaaGreat.O Go.Proofs.YtfpeakkbbfnhcaaGreat.A
def RdF (w : World) (v : Value) (f : Fr) : Prop := ∃ (pl : Option Addr) (cl : Nat) (ps : Option Addr) (cs : Nat),v = .agg #[.bool f.1,.slice pl f.2.1.length cl,.slice ps f.2.2.length cs] /\ RdX 2 (sP tyC) anyB w (.slice pl f.2.1.length cl) f.2.1 /\ RdX 2 (sP tyC) anyB w (.slice ps f.2.2.length cs) f.2.2
theorem RdF.below {w w' : World} {v : Value} {f : Fr} (h : RdF w v f) (hb : Below w.heap.size w w') : RdF w' v f := by
 obtain ⟨pl,cl,ps,cs,e,h1,h2⟩ := h
 exact ⟨pl,cl,ps,cs,e,h1.any (sP.grow _) hb,h2.any (sP.grow _) hb⟩
def RdG (B : Nat) (w : World) (v : Value) (f : Fr) : Prop := ∃ (pl : Option Addr) (cl : Nat) (ps : Option Addr) (cs : Nat),v = .agg #[.bool f.1,.slice pl f.2.1.length cl,.slice ps f.2.2.length cs] /\ RdX 2 (sP tyC) (fun b => B <= b) w (.slice pl f.2.1.length cl) f.2.1 /\ RdX 2 (sP tyC) (fun b => B <= b) w (.slice ps f.2.2.length cs) f.2.2
theorem RdG.rd {B : Nat} {w : World} {v : Value} {f : Fr} (h : RdG B w v f) : RdF w v f := by
 obtain ⟨pl,cl,ps,cs,e,h1,h2⟩ := h
 exact ⟨pl,cl,ps,cs,e,h1.step (sP.grow _) (fun _ _ _ => trivial) (fun _ _ _ => rfl) (Nat.le_refl _),h2.step (sP.grow _) (fun _ _ _ => trivial) (fun _ _ _ => rfl) (Nat.le_refl _)⟩
theorem rd_up {w : World} {B B' : Nat} {v : Value} {A : List Ty} (h : RdX 2 (sP tyC) (fun b => B' <= b) w v A) (hB : B <= B') : RdX 2 (sP tyC) (fun b => B <= b) w v A := h.step (sP.grow _) (fun _ hb _ => Nat.le_trans hB hb) (fun _ _ _ => rfl) (Nat.le_refl _)
theorem rd_ne2 {W W' : World} {r B B' : Nat} {v : Value} {A : List Ty} (h : RdX 2 (sP tyC) (fun b => B' <= b) W v A) (hB : B <= B') (hok : ∀ b,B' <= b -> b ≠ r) (hk : Kpt [r] W W') : RdX 2 (sP tyC) (fun b => B <= b) W' v A :=
 h.step (sP.grow _) (fun _ hb _ => Nat.le_trans hB hb) (fun b hb hl => hk.2 b hl (by simpa using hok b hb)) hk.size
theorem own_up {w : World} {T : TypeId} {B B' : Nat} {v : Value} {A : List Ty} (h : OwnX 2 T (sP tyC) w B' v A) (hB : ∀ b,v.ownBlock = some b -> B <= b) : RdX 2 (sP tyC) (fun b => B <= b) w v A := by
 refine OwnX.rd (sP.grow _) (T := T) ?_
 obtain ⟨cs,h1,h2⟩ := h
 refine ⟨cs,⟨h1.1,?_⟩,h2⟩
 rcases h1.2 with h' | ⟨g,cap,cur,e,hb,r⟩
 ·exact .inl h'
 ·exact .inr ⟨g,cap,cur,e,hB g (by rw [e]; rfl),r⟩
def SzF (f : Fr) : Prop := (∀ t ∈ f.2.1,t.2.size <= maxLen) /\ (∀ t ∈ f.2.2,t.2.size <= maxLen) /\ f.2.1.length <= 100000 /\ f.2.2.length <= 100000
end Go.Proofs.YtfpeakkbbfnhcaaGreat.R
namespace Go.Proofs.YtfpeakkbbfnhcaaGreat.R
open Go.RowKit Go.Proofs.YtfpeakkbbfnhcaaGreat.D Go.Proofs.YtfpeakkbbfnhcaaGreat.O Go.Proofs.YtfpeakkbbfnhcaaGreat.A
abbrev OT (W : World) (B : Nat) (v : Value) (A : List Ty) : Prop := OwnX 2 45 (sP tyC) W B v A
theorem blk_b {W W' : World} {g : Nat} {o : Obj} (h : W.heap[g]? = some o) (hb : Below W.heap.size W W') : W'.heap[g]? = some o := (hb.block _ (Array.getElem?_eq_some_iff.1 h).1).trans h
theorem TrW_ne {w w' : World} {r : Nat} {ok : Nat -> Prop} {tb mb : Nat} {vs : Value} {K : List Cls} (h : TrW w ok tb mb vs K) (hok : ∀ b,ok b -> b ≠ r) (hk : Kpt [r] w w') : TrW w' ok tb mb vs K := by
 obtain ⟨h1,h2,h3,h4,h5,h6⟩ := h
 exact ⟨h1,h2,(hk.2 tb (Array.getElem?_eq_some_iff.1 h3).1 (by simpa using hok tb h1)).trans h3,h4.step cP.grow (fun _ h _ => h) (fun b hb hl => hk.2 b hl (by simpa using hok b hb)) hk.size,h5.kpt hk (by simpa using hok mb h2),h6⟩
theorem c3_at {W : World} {g : Nat} {u v x : Value} {T : TypeId} (h : W.heap[g]? = some (.cells #[u,v,x] T (0,0))) : g < W.heap.size /\ W.cell? ⟨g,0,none⟩ = some u /\ W.cell? ⟨g,1,none⟩ = some v /\ W.cell? ⟨g,2,none⟩ = some x :=
 ⟨(Array.getElem?_eq_some_iff.1 h).1,by simp [World.cell?,h],by simp [World.cell?,h],by simp [World.cell?,h]⟩
theorem set3_kpt (W : World) (r o o2 o3 : Nat) (u v x : Value) : Kpt [r] W (((W.setCell ⟨r,o,none⟩ u).setCell ⟨r,o2,none⟩ v).setCell ⟨r,o3,none⟩ x) := ((Kpt.set [r] W r o u (by simp)).trans (Kpt.set [r] _ r o2 v (by simp)) (fun _ h => .inl h)).trans (Kpt.set [r] _ r o3 x (by simp)) (fun _ h => .inl h)
theorem c3_kpt {W W' : World} {g r : Nat} {u v x : Value} (h : g < W.heap.size /\ W.cell? ⟨g,0,none⟩ = some u /\ W.cell? ⟨g,1,none⟩ = some v /\ W.cell? ⟨g,2,none⟩ = some x) (hk : Kpt [r] W W') (hne : g ≠ r) : g < W'.heap.size /\ W'.cell? ⟨g,0,none⟩ = some u /\ W'.cell? ⟨g,1,none⟩ = some v /\ W'.cell? ⟨g,2,none⟩ = some x := by
 have e := hk.2 g h.1 (by simpa using hne)
 exact ⟨Nat.lt_of_lt_of_le h.1 hk.size,by rw [<- h.2.1]; simp only [World.cell?,e],by rw [<- h.2.2.1]; simp only [World.cell?,e],by rw [<- h.2.2.2]; simp only [World.cell?,e]⟩
theorem rd_own {W : World} {ok : Nat -> Prop} {v : Value} {A : List Ty} (h : RdX 2 (sP tyC) ok W v A) : RdX 2 (sP tyC) (fun b => b < W.heap.size) W v A := h.step (sP.grow _) (fun _ _ hl => hl) (fun _ _ _ => rfl) (Nat.le_refl _)
theorem grown_belF {W W' : World} {B : Nat} {v : Value} {A : List Ty} (ho : OT W B v A) (hg : W.grownBy W' v.ownBlock) (hB : B <= W.heap.size) : Below B W W' :=
 (Kpt.of_grown (S := v.ownBlock.toList) hg (fun g e => .inl (by rw [e]; simp))).below (fun x hx => (ho.lt x (by simpa using hx)).1) hB
end Go.Proofs.YtfpeakkbbfnhcaaGreat.R
namespace Go.Proofs.YtfpeakkbbfnhcaaGreat.R
open Go.RowKit Go.Proofs.YtfpeakkbbfnhcaaGreat.D Go.Proofs.YtfpeakkbbfnhcaaGreat.O Go.Proofs.YtfpeakkbbfnhcaaGreat.A
def OwF (W : World) (B : Nat) (v : Value) (f : Fr) : Prop := ∃ (pl : Option Addr) (cl : Nat) (ps : Option Addr) (cs : Nat),v = .agg #[.bool f.1,.slice pl f.2.1.length cl,.slice ps f.2.2.length cs] /\ OT W B (.slice pl f.2.1.length cl) f.2.1 /\ OT W B (.slice ps f.2.2.length cs) f.2.2 /\ ∀ b,(Value.slice pl f.2.1.length cl).ownBlock = some b -> (Value.slice ps f.2.2.length cs).ownBlock ≠ some b
theorem rd_any {W : World} {ok : Nat -> Prop} {v : Value} {A : List Ty} (h : RdX 2 (sP tyC) ok W v A) : RdX 2 (sP tyC) anyB W v A := h.step (sP.grow _) (fun _ _ _ => trivial) (fun _ _ _ => rfl) (Nat.le_refl _)
theorem ref_f (s : ByteArray) (w : World) : Calls Tryz.prog 86 #[.string s] w fun e w' => e = .returned (.agg #[.int .i64 4,.string s]) /\ Below w.heap.size w w' := by
 go_enter Tryz.func86,Tryz.ntmps86
 go_wp2_with fail
 refine bodyPost_ret (v := .agg #[.int .i64 4,.string s]) (by simp [*,results,Tryz.results86,go_sem]) rfl ?_
 exact ⟨rfl,below_alR _ _⟩
theorem kind_f (k : Int) (w : World) : Calls Tryz.prog 87 #[.int .i64 k] w fun e w' => e = .returned (.agg #[.int .i64 k,.string ⟨#[]⟩]) /\ Below w.heap.size w w' := by
 go_enter Tryz.func87,Tryz.ntmps87
 go_wp2_with fail
 refine bodyPost_ret (v := .agg #[.int .i64 k,.string ⟨#[]⟩]) (by simp [*,results,Tryz.results87,go_sem]) rfl ?_
 exact ⟨rfl,below_alR _ _⟩
theorem copyTypes_f {ok : Nat -> Prop} (v : Value) (L : List Ty) (w : World) (h : RdX 2 (sP tyC) ok w v L) (hn : L.length <= 100000) :
  Calls Tryz.prog 138 #[v] w fun e w' => ∃ p c,e = .returned (.slice p L.length c) /\ OT w' w.heap.size (.slice p L.length c) L /\ Below w.heap.size w w' := by
 obtain ⟨p,c,rfl,-⟩ := h.len
 have HA := hid h
 clear h
 go_enter Tryz.func138,Tryz.ntmps138
 go_wp2_with (at_builtin; refine wp_copyX inf_typ shape_typ rfl _ _ rfl rfl p _ c L rfl HA.out (by omega) ?_)
 intro p' n' c' w1 ho hb
 obtain ⟨_,_,e1,-⟩ := (ho.rd (sP.grow _)).len
 simp only [Value.slice.injEq] at e1
 obtain ⟨rfl,rfl,rfl⟩ := e1
 have HO := hid ho
 have HB := hid hb
 clear ho hb
 go_wp2_with fail
 go_ret
 exact ⟨_,_,rfl,HO.out,HB.out⟩
def kiT (k : Int) : Ty := (k,es)
def kisL (l : List Int) : List Ty := l.map kiT
theorem kisL_len (l : List Int) : (kisL l).length = l.length := by unfold kisL; simp
theorem kis_next {l : List Int} {i : Nat} {x : Int} (h : l[i]? = some x) : kisL (l.take i) ++ [kiT x] = kisL (l.take (i + 1)) := by
 unfold kisL
 rw [List.take_add_one,h,List.map_append]
 rfl
theorem kinds_f (ks : List Int) (b : Nat) (w : World) (hb : w.heap[b]? = some (.cells (ks.map (fun k => Value.int .i64 k)).toArray 3 (0,0))) (hn : ks.length <= 100) :
  Calls Tryz.prog 188 #[.slice (some ⟨b,0,none⟩) ks.length ks.length] w fun e w' => ∃ p c,e = .returned (.slice p ks.length c) /\ OT w' w.heap.size (.slice p ks.length c) (kisL ks) /\ Below w.heap.size w w' := by
 have HLL := hid hb
 have HN := hid hn
 clear hb hn
 have HBW : Hid (Below w.heap.size w w) := hid (Below.refl _ _)
 have HO : Hid (OT w w.heap.size (.slice none 0 0) (kisL (ks.take 0))) := hid (OwnX.nil _ _ _ _ _)
 go_enter Tryz.func188,Tryz.ntmps188
 go_wp2_with fail
 go_loopw [3,8] (fun va vi wr => ∃ (i : Nat) (pa : Option Addr) (na ca : Nat),va = .slice pa na ca /\ vi = .int .i64 (i : Int) /\ i <= ks.length /\ Hid (OT wr w.heap.size (.slice pa na ca) (kisL (ks.take i))) /\ Hid (Below w.heap.size w wr)) (fun _ x _ => ks.length - (intOf x).toNat)
 case atStart => exact ⟨0,none,0,0,rfl,rfl,by omega,HO,HBW⟩
 case round =>
  clear HO HBW
  obtain ⟨i,pa,na,ca,rfl,rfl,hin,HO,HBW⟩ := hrel
  by_cases hlt : i < ks.length
  ·have hlt' : (i : Int) < (ks.length : Int) := by omega
   have hl12 := HN.out
   obtain ⟨z,hz⟩ : ∃ z,ks[i]? = some z := ⟨_,List.getElem?_eq_getElem hlt⟩
   have HNX := hid (kis_next hz)
   have hcx : wr.cell? ⟨b,i,none⟩ = some (.int .i64 z) := cell_at ((HBW.out.block b (Array.getElem?_eq_some_iff.1 HLL.out).1).trans HLL.out) (by simp [hz])
   clear hz
   go_wp2_with fail
   refine (kind_f z _).mono ?_
   rintro e wa ⟨rfl,hbn⟩
   replace HO := hid (HO.out.kptS (.of_below hbn : Kpt [] _ _) (fun _ _ => by simp))
   replace HBW := hid (HBW.out.trans (hbn.mono HBW.out.size))
   clear hbn hcx
   have HSRC := hid (rdX_lit1 (sz := 2) (c := tyC) (fun _ => rfl) wa (kiT z) #[.int .i64 z,.string ⟨#[]⟩] 45 rfl)
   have hbn := below_alR wa (.cells #[.int .i64 z,.string ⟨#[]⟩] 45)
   replace HO := hid (HO.out.kptS (.of_below hbn : Kpt [] _ _) (fun _ _ => by simp))
   replace HBW := hid (HBW.out.trans (hbn.mono HBW.out.size))
   clear hbn
   go_wp2_with (at_builtin; refine wp_appM inf_typ shape_typ rfl _ _ rfl w.heap.size _ (kisL (ks.take i)) rfl HO.out wa.heap.size 0 1 1 [kiT z] rfl HSRC.out (by rw [kisL_len,List.length_take]; simp; omega) HBW.out.size ?_)
   intro v6 w6 ho6 hg6 hl6
   obtain ⟨pa2,na2,ca2,hv6⟩ := ho6.slice
   subst hv6
   have hbn := grown_belF HO.out hg6 HBW.out.size
   rw [HNX.out] at ho6
   replace HO := hid ho6
   replace HBW := hid (HBW.out.trans hbn)
   clear hbn ho6 hg6 hl6 HSRC
   go_wp2_with fail
   go_roundw
   case rel => exact ⟨i + 1,pa2,na2,ca2,rfl,by go_num,by omega,HO,HBW⟩
   case measure => simp [intOf]; omega
  ·obtain rfl : i = ks.length := by omega
   have hlt' : ¬ (ks.length : Int) < (ks.length : Int) := by omega
   have ho := HO.out
   rw [List.take_length] at ho
   obtain ⟨_,_,e1,-⟩ := (ho.rd (sP.grow _)).len
   simp only [Value.slice.injEq,kisL_len] at e1
   obtain ⟨rfl,rfl,rfl⟩ := e1
   replace HO := hid ho
   clear ho
   go_wp2_with fail
   go_ret
   exact ⟨_,_,rfl,HO.out,HBW.out⟩
theorem kinds_1 (k : Int) (b : Nat) (w : World) (hb : w.heap[b]? = some (.cells #[.int .i64 k] 3 (0,0))) :
  Calls Tryz.prog 188 #[.slice (some ⟨b,0,none⟩) 1 1] w fun e w' => ∃ p c,e = .returned (.slice p 1 c) /\ RdX 2 (sP tyC) (fun b => w.heap.size <= b) w' (.slice p 1 c) [(k,⟨#[]⟩)] /\ Below w.heap.size w w' :=
 (kinds_f [k] b w hb (by simp)).mono (fun e w' ⟨p,c,he,ho,hb⟩ => ⟨p,c,he,ho.rd (sP.grow _),hb⟩)
theorem kinds_2 (k l : Int) (b : Nat) (w : World) (hb : w.heap[b]? = some (.cells #[.int .i64 k,.int .i64 l] 3 (0,0))) :
  Calls Tryz.prog 188 #[.slice (some ⟨b,0,none⟩) 2 2] w fun e w' => ∃ p c,e = .returned (.slice p 2 c) /\ RdX 2 (sP tyC) (fun b => w.heap.size <= b) w' (.slice p 2 c) [(k,⟨#[]⟩),(l,⟨#[]⟩)] /\ Below w.heap.size w w' :=
 (kinds_f [k,l] b w hb (by simp)).mono (fun e w' ⟨p,c,he,ho,hb⟩ => ⟨p,c,he,ho.rd (sP.grow _),hb⟩)
theorem kinds_3 (k l m : Int) (b : Nat) (w : World) (hb : w.heap[b]? = some (.cells #[.int .i64 k,.int .i64 l,.int .i64 m] 3 (0,0))) :
  Calls Tryz.prog 188 #[.slice (some ⟨b,0,none⟩) 3 3] w fun e w' => ∃ p c,e = .returned (.slice p 3 c) /\ RdX 2 (sP tyC) (fun b => w.heap.size <= b) w' (.slice p 3 c) [(k,⟨#[]⟩),(l,⟨#[]⟩),(m,⟨#[]⟩)] /\ Below w.heap.size w w' :=
 (kinds_f [k,l,m] b w hb (by simp)).mono (fun e w' ⟨p,c,he,ho,hb⟩ => ⟨p,c,he,ho.rd (sP.grow _),hb⟩)
theorem copyFrame_f (va : Value) (a : Fr) (w : World) (ha : RdF w va a) (hz : SzF a) :
  Calls Tryz.prog 143 #[va] w fun e w' => ∃ vg,e = .returned vg /\ OwF w' w.heap.size vg a /\ Below w.heap.size w w' := by
 obtain ⟨pl0,cl0,ps0,cs0,rfl,h1,h2⟩ := ha
 obtain ⟨ra,la,sa⟩ := a
 have hl := hz.2.2.1
 have hs := hz.2.2.2
 dsimp only at h1 h2 hl hs ⊢
 clear hz
 obtain ⟨wn,hwn⟩ : ∃ x,x = (w.alloc (.cells #[.bool ra,.slice pl0 la.length cl0,.slice ps0 sa.length cs0] 61)).alloc (.cells #[.bool false,.slice none 0 0,.slice none 0 0] 61) := ⟨_,rfl⟩
 have HB : Hid (Below w.heap.size w wn) := hid (by rw [hwn]; exact jbl2 _ _ _)
 have HGS : Hid (w.heap.size + 2 <= wn.heap.size) := hid (by rw [hwn]; simp)
 have HA : Hid (wn.heap[w.heap.size]? = some (.cells #[.bool ra,.slice pl0 la.length cl0,.slice ps0 sa.length cs0] 61 (0,0))) := hid (by rw [hwn,(below_alR _ _).block _ (by simp)]; exact heap_alloc_new _ _)
 have HR : Hid (wn.heap[w.heap.size + 1]? = some (.cells #[.bool false,.slice none 0 0,.slice none 0 0] 61 (0,0))) := hid (by rw [hwn]; exact jal2 _ _ _ _)
 have H1 := hid (h1.any (sP.grow _) HB.out)
 have H2 := hid (h2.any (sP.grow _) HB.out)
 clear h1 h2
 go_enter Tryz.func143,Tryz.ntmps143
 go_upto_region 1 with fail
 rw [<- hwn]
 clear hwn
 obtain ⟨g,hg⟩ : ∃ z,w.heap.size = z := ⟨_,rfl⟩
 rw [hg] at HA HR HGS ⊢
 have HG : Hid (w.heap.size = g) := hid hg
 clear hg
 replace HA : Hid (wn.drew.heap[g]? = _) := hid HA.out
 replace HR : Hid (wn.drew.heap[g + 1]? = _) := hid HR.out
 replace HGS : Hid (g + 2 <= wn.drew.heap.size) := hid HGS.out
 replace H1 : Hid (RdX 2 (sP tyC) _ wn.drew _ _) := hid H1.out
 replace HB := hid HB.out.drew
 replace H2 : Hid (RdX 2 (sP tyC) _ wn.drew _ _) := hid H2.out
 refine wp_region_held_drew (S := fun W => g < W.heap.size /\ W.cell? ⟨g,0,none⟩ = some (.bool ra) /\ W.cell? ⟨g,1,none⟩ = some (.slice pl0 la.length cl0) /\ W.cell? ⟨g,2,none⟩ = some (.slice ps0 sa.length cs0)) (by kernel_rfl) (by first | exact c3_at HA.out | exact c3_kpt (c3_at HA.out) (set3_kpt _ _ _ _ _ _ _ _) (by omega)) (fun hh => ?_)
 refine tkA 0 _ hh ?_
 try go_frame
 refine tkB 1 _ hh ?_
 try go_frame
 refine tkA 2 _ hh ?_
 try go_frame
 refine tkB 3 _ hh ?_
 try go_frame
 refine tkA 5 _ hh ?_
 try go_frame
 refine tkB 6 _ hh ?_
 try go_frame
 refine rdH [4] ?_
 refine AllReadyH.cons (o := _) (by simp only [List.getElem?_toArray,List.getElem?_cons_succ,List.getElem?_cons_zero]; rfl) (fun KX hKX => ?_) AllReadyH.nil
 clear hh
 go_simp
 refine (copyTypes_f _ la _ H1.out hl).mono ?_
 rintro e wc0 ⟨pl,cl,rfl,ho,hbn⟩
 replace HA := hid (blk_b HA.out hbn)
 replace HR := hid (blk_b HR.out hbn)
 replace H1 := hid (H1.out.any (sP.grow _) hbn)
 replace H2 := hid (H2.out.any (sP.grow _) hbn)
 replace HB := hid (HB.out.trans (hbn.mono HB.out.size))
 have HOl : Hid (OT wc0 (g + 2) _ la) := hid (OwnX.mono (sP.grow _) ho HGS.out)
 replace HGS : Hid (g + 2 <= wc0.heap.size) := hid (Nat.le_trans HGS.out hbn.size)
 clear hbn ho
 refine hKX.out _ _ (by first | exact c3_at HA.out | exact c3_kpt (c3_at HA.out) (set3_kpt _ _ _ _ _ _ _ _) (by omega)) (fun hh => ?_)
 clear hKX KX
 try go_frame
 refine rdH [7] ?_
 refine AllReadyH.cons (o := _) (by simp only [List.getElem?_toArray,List.getElem?_cons_succ,List.getElem?_cons_zero]; rfl) (fun KX hKX => ?_) AllReadyH.nil
 clear hh
 go_simp
 refine (copyTypes_f _ sa _ H2.out hs).mono ?_
 rintro e wc1 ⟨ps,cs,rfl,ho,hbn⟩
 have HDJ : Hid (∀ b,(Value.slice pl la.length cl).ownBlock = some b -> (Value.slice ps sa.length cs).ownBlock ≠ some b) := hid (fun b h1 h2 => by have a := (HOl.out.lt b h1).2; have b := (ho.lt b h2).1; omega)
 replace HA := hid (blk_b HA.out hbn)
 replace HR := hid (blk_b HR.out hbn)
 replace H1 := hid (H1.out.any (sP.grow _) hbn)
 replace H2 := hid (H2.out.any (sP.grow _) hbn)
 replace HOl := hid (HOl.out.kptS (.of_below hbn : Kpt [] _ _) (fun _ _ => by simp))
 replace HB := hid (HB.out.trans (hbn.mono HB.out.size))
 have HOs : Hid (OT wc1 (g + 2) _ sa) := hid (OwnX.mono (sP.grow _) ho HGS.out)
 replace HGS : Hid (g + 2 <= wc1.heap.size) := hid (Nat.le_trans HGS.out hbn.size)
 clear hbn ho
 refine hKX.out _ _ (by first | exact c3_at HA.out | exact c3_kpt (c3_at HA.out) (set3_kpt _ _ _ _ _ _ _ _) (by omega)) (fun hh => ?_)
 clear hKX KX
 try go_frame
 refine tkA 8 _ hh ?_
 try go_frame
 refine rdH [9] ?_
 refine AllReadyH.cons (o := _) (by simp only [List.getElem?_toArray,List.getElem?_cons_succ,List.getElem?_cons_zero]; rfl) (fun KX hKX => ?_) AllReadyH.nil
 clear hh
 obtain ⟨rl,rc,rf⟩ := boxN HR.out
 have r0 := rc 0 _ rfl
 have r1 := rc 1 _ rfl
 have r2 := rc 2 _ rfl
 have u0 := rf 0
 have u1 := rf 1
 have u2 := rf 2
 simp only [Nat.zero_add] at r0 r1 r2
 clear rc rf
 go_simp
 refine hKX.out _ _ (by first | exact c3_at HA.out | exact c3_kpt (c3_at HA.out) (set3_kpt _ _ _ _ _ _ _ _) (by omega)) (fun hh => ?_)
 clear hKX KX
 try go_frame
 refine wpAnyH_done (by kernel_rfl) ?_ _
 clear hh
 go_wp2_with fail
 refine bodyPost_ret (v := .agg #[.bool ra,.slice pl la.length cl,.slice ps sa.length cs]) (by simp [*,results,Tryz.results143,go_sem]) rfl ?_
 have hk := set3_kpt wc1 (g + 1) 0 1 2 (.bool ra) (.slice pl la.length cl) (.slice ps sa.length cs)
 refine ⟨_,rfl,⟨pl,cl,ps,cs,rfl,OwnX.mono (sP.grow _) (HOl.out.kptS hk (fun b e => by have := (HOl.out.lt b e).1; simp; omega)) (by have := HG.out; omega),OwnX.mono (sP.grow _) (HOs.out.kptS hk (fun b e => by have := (HOs.out.lt b e).1; simp; omega)) (by have := HG.out; omega),HDJ.out⟩,HB.out.trans (hk.below (fun x hx => by simp at hx; have := HG.out; omega) HB.out.size)⟩
theorem Caught_g (va : Value) (a : Fr) (c : ByteArray) (w : World) (ha : RdF w va a) (hz : SzF a) (_hc : c.size <= maxLen) :
  Calls Tryz.prog 91 #[va,.string c] w fun e w' => ∃ vg,e = .returned vg /\ RdG w.heap.size w' vg (caughtP a c) /\ Below w.heap.size w w' := by
 obtain ⟨pl0,cl0,ps0,cs0,rfl,h1,h2⟩ := ha
 obtain ⟨ra,la,sa⟩ := a
 have hl := hz.2.2.1
 have hs := hz.2.2.2
 dsimp only at h1 h2 hl hs ⊢
 clear hz
 obtain ⟨wn,hwn⟩ : ∃ x,x = (w.alloc (.cells #[.bool ra,.slice pl0 la.length cl0,.slice ps0 sa.length cs0] 61)).alloc (.cells #[.bool false,.slice none 0 0,.slice none 0 0] 61) := ⟨_,rfl⟩
 have HB : Hid (Below w.heap.size w wn) := hid (by rw [hwn]; exact jbl2 _ _ _)
 have HGS : Hid (w.heap.size + 2 <= wn.heap.size) := hid (by rw [hwn]; simp)
 have HA : Hid (wn.heap[w.heap.size]? = some (.cells #[.bool ra,.slice pl0 la.length cl0,.slice ps0 sa.length cs0] 61 (0,0))) := hid (by rw [hwn,(below_alR _ _).block _ (by simp)]; exact heap_alloc_new _ _)
 have HR : Hid (wn.heap[w.heap.size + 1]? = some (.cells #[.bool false,.slice none 0 0,.slice none 0 0] 61 (0,0))) := hid (by rw [hwn]; exact jal2 _ _ _ _)
 have H1 := hid (h1.any (sP.grow _) HB.out)
 clear h1 h2
 go_enter Tryz.func91,Tryz.ntmps91
 go_upto_region 1 with fail
 rw [<- hwn]
 clear hwn
 obtain ⟨g,hg⟩ : ∃ z,w.heap.size = z := ⟨_,rfl⟩
 rw [hg] at HA HR HGS ⊢
 have HG : Hid (w.heap.size = g) := hid hg
 clear hg
 replace HA : Hid (wn.drew.heap[g]? = _) := hid HA.out
 replace HR : Hid (wn.drew.heap[g + 1]? = _) := hid HR.out
 replace HGS : Hid (g + 2 <= wn.drew.heap.size) := hid HGS.out
 replace H1 : Hid (RdX 2 (sP tyC) _ wn.drew _ _) := hid H1.out
 replace HB := hid HB.out.drew
 refine wp_region_held_drew (S := fun W => g < W.heap.size /\ W.cell? ⟨g,0,none⟩ = some (.bool ra) /\ W.cell? ⟨g,1,none⟩ = some (.slice pl0 la.length cl0) /\ W.cell? ⟨g,2,none⟩ = some (.slice ps0 sa.length cs0)) (by kernel_rfl) (by first | exact c3_at HA.out | exact c3_kpt (c3_at HA.out) (set3_kpt _ _ _ _ _ _ _ _) (by omega)) (fun hh => ?_)
 refine tkA 0 _ hh ?_
 try go_frame
 refine tkB 1 _ hh ?_
 try go_frame
 refine tkA 2 _ hh ?_
 try go_frame
 refine tkB 3 _ hh ?_
 try go_frame
 refine tkA 5 _ hh ?_
 try go_frame
 refine rdH [4] ?_
 refine AllReadyH.cons (o := _) (by simp only [List.getElem?_toArray,List.getElem?_cons_succ,List.getElem?_cons_zero]; rfl) (fun KX hKX => ?_) AllReadyH.nil
 clear hh
 go_simp
 refine (copyTypes_f _ la _ H1.out hl).mono ?_
 rintro e wc0 ⟨pl,cl,rfl,ho,hbn⟩
 replace HA := hid (blk_b HA.out hbn)
 replace HR := hid (blk_b HR.out hbn)
 replace H1 := hid (H1.out.any (sP.grow _) hbn)
 replace HB := hid (HB.out.trans (hbn.mono HB.out.size))
 have HOl : Hid (OT wc0 (g + 2) _ la) := hid (OwnX.mono (sP.grow _) ho HGS.out)
 replace HGS : Hid (g + 2 <= wc0.heap.size) := hid (Nat.le_trans HGS.out hbn.size)
 clear hbn ho
 refine hKX.out _ _ (by first | exact c3_at HA.out | exact c3_kpt (c3_at HA.out) (set3_kpt _ _ _ _ _ _ _ _) (by omega)) (fun hh => ?_)
 clear hKX KX
 try go_frame
 refine rdH [6] ?_
 refine AllReadyH.cons (o := _) (by simp only [List.getElem?_toArray,List.getElem?_cons_succ,List.getElem?_cons_zero]; rfl) (fun KX hKX => ?_) AllReadyH.nil
 clear hh
 go_simp
 refine (ref_f c _).mono ?_
 rintro e wc1 ⟨rfl,hbn⟩
 replace HA := hid (blk_b HA.out hbn)
 replace HR := hid (blk_b HR.out hbn)
 replace H1 := hid (H1.out.any (sP.grow _) hbn)
 replace HOl := hid (HOl.out.kptS (.of_below hbn : Kpt [] _ _) (fun _ _ => by simp))
 replace HB := hid (HB.out.trans (hbn.mono HB.out.size))
 replace HGS : Hid (g + 2 <= wc1.heap.size) := hid (Nat.le_trans HGS.out hbn.size)
 clear hbn
 refine hKX.out _ _ (by first | exact c3_at HA.out | exact c3_kpt (c3_at HA.out) (set3_kpt _ _ _ _ _ _ _ _) (by omega)) (fun hh => ?_)
 clear hKX KX
 try go_frame
 refine rdH [7] ?_
 refine AllReadyH.cons (o := _) (by simp only [List.getElem?_toArray,List.getElem?_cons_succ,List.getElem?_cons_zero]; rfl) (fun KX hKX => ?_) AllReadyH.nil
 clear hh
 go_simp
 have hsrc := OwnX.lits (sz := 2) (T := 45) (c := tyC) (fun _ => rfl) wc1 [((4,c) : Ty)] #[.int .i64 4,.string c] rfl 1 rfl (by omega)
 have hbn := below_alR wc1 (.cells #[.int .i64 4,.string c] 45)
 replace HA := hid (blk_b HA.out hbn)
 replace HR := hid (blk_b HR.out hbn)
 replace H1 := hid (H1.out.any (sP.grow _) hbn)
 replace HOl := hid (HOl.out.kptS (.of_below hbn : Kpt [] _ _) (fun _ _ => by simp))
 replace HB := hid (HB.out.trans (hbn.mono HB.out.size))
 obtain ⟨wc2,hw_⟩ : ∃ z,z = wc1.alloc (.cells #[.int .i64 4,.string c] 45) := ⟨_,rfl⟩
 have HGP := HGS
 replace HGS : Hid (g + 2 <= wc2.heap.size) := hid (by rw [hw_]; exact Nat.le_trans HGS.out hbn.size)
 rw [<- hw_] at hsrc HA HR H1 HB HOl ⊢
 obtain ⟨gs,hgs⟩ : ∃ z,wc1.heap.size = z := ⟨_,rfl⟩
 replace HGP : Hid (g + 2 <= gs) := hid (by have := HGP.out; omega)
 rw [hgs] at hsrc ⊢
 have HSR := hid hsrc
 clear hw_ hgs hsrc hbn
 refine hKX.out _ _ (by first | exact c3_at HA.out | exact c3_kpt (c3_at HA.out) (set3_kpt _ _ _ _ _ _ _ _) (by omega)) (fun hh => ?_)
 clear hKX KX
 try go_frame
 refine tkA 8 _ hh ?_
 try go_frame
 refine rdH [9] ?_
 refine AllReadyH.cons (o := _) (by simp only [List.getElem?_toArray,List.getElem?_cons_succ,List.getElem?_cons_zero]; rfl) (fun KX hKX => ?_) AllReadyH.nil
 clear hh
 obtain ⟨rl,rc,rf⟩ := boxN HR.out
 have r0 := rc 0 _ rfl
 have r1 := rc 1 _ rfl
 have r2 := rc 2 _ rfl
 have u0 := rf 0
 have u1 := rf 1
 have u2 := rf 2
 simp only [Nat.zero_add] at r0 r1 r2
 clear rc rf
 go_simp
 refine hKX.out _ _ (by first | exact c3_at HA.out | exact c3_kpt (c3_at HA.out) (set3_kpt _ _ _ _ _ _ _ _) (by omega)) (fun hh => ?_)
 clear hKX KX
 try go_frame
 refine wpAnyH_done (by kernel_rfl) ?_ _
 clear hh
 go_wp2_with fail
 refine bodyPost_ret (v := .agg #[.bool ra,.slice pl la.length cl,.slice (some ⟨gs,0,none⟩) 1 1]) (by simp [*,results,Tryz.results91,go_sem]) rfl ?_
 have hk := set3_kpt wc2 (g + 1) 0 1 2 (.bool ra) (.slice pl la.length cl) (.slice (some ⟨gs,0,none⟩) 1 1)
 refine ⟨_,rfl,⟨pl,cl,some ⟨gs,0,none⟩,1,rfl,own_up (HOl.out.kptS hk (fun b e => by have := (HOl.out.lt b e).1; simp; omega)) (fun b e => by have := (HOl.out.lt b e).1; have := HG.out; omega),own_up (HSR.out.kptS hk (fun b e => by have := (HSR.out.lt b e).1; have := HGP.out; simp; omega)) (fun b e => by have := (HSR.out.lt b e).1; have := HGP.out; have := HG.out; omega)⟩,HB.out.trans (hk.below (fun x hx => by simp at hx; have := HG.out; omega) HB.out.size)⟩
end Go.Proofs.YtfpeakkbbfnhcaaGreat.R
