/- Texts that the proof is made of, joined. No condition. -/
import Derived.Test.YtofnbapnmhibaaaGreatS61
import Derived.Lib.IndexMore
import Derived.Test.YtofnbapnmhibaaaGreatS60
import Derived.RegionTactic
import Derived.ChangeAlike
import Derived.Laws.AppendOwnNone
import Derived.Deep.QuietTactic
import Derived.BigQuiet
import Derived.Test.YtofnbapnmhibaaaGreatS6H
set_option linter.unusedVariables false
set_option linter.unusedSimpArgs false
set_option maxRecDepth 100000
set_option maxHeartbeats 16000000
namespace Go.Proofs.YtofnbapnmhibaaaGreat.D
open Go.RowKit
abbrev Ty := Int × ByteArray
def tyv (t : Ty) : Value := .agg #[.int .i64 t.1,.string t.2]
def bx (l : List UInt8) : ByteArray := ⟨l.toArray⟩
def t0 : Ty := (0,⟨#[]⟩)
theorem data_app (a b : ByteArray) : (a ++ b).data.toList = a.data.toList ++ b.data.toList := by simp
theorem bx_data (l : List UInt8) : (bx l).data.toList = l := rfl
theorem bx_size (l : List UInt8) : (bx l).size = l.length := by rw [Lib.size_eq]; rfl
def cutAt : List UInt8 -> Option (List UInt8 × List UInt8)
 | [] => none
 | c :: r => if c = 59 then some ([],r) else (cutAt r).map fun p => (c :: p.1,p.2)
theorem cutAt_some : ∀ {r a b : List UInt8},cutAt r = some (a,b) -> r = a ++ 59 :: b /\ (59 : UInt8) ∉ a
 | [],_,_,h => by simp [cutAt] at h
 | c :: r,a,b,h => by
  unfold cutAt at h
  by_cases hc : c = 59
  ·rw [if_pos hc] at h
   simp only [Option.some.injEq,Prod.mk.injEq] at h
   obtain ⟨rfl,rfl⟩ := h
   subst hc
   exact ⟨rfl,by simp⟩
  ·rw [if_neg hc] at h
   obtain ⟨⟨a',b'⟩,h1,h2⟩ := Option.map_eq_some_iff.1 h
   simp only [Prod.mk.injEq] at h2
   obtain ⟨rfl,rfl⟩ := h2
   obtain ⟨rfl,h3⟩ := cutAt_some h1
   exact ⟨rfl,by simp only [List.mem_cons,not_or]; exact ⟨fun e => hc e.symm,h3⟩⟩
theorem index_cut : ∀ (r : List UInt8),(cutAt r = none /\ Lib.index r [59] = -1) ∨ ∃ a b,cutAt r = some (a,b) /\ Lib.index r [59] = (a.length : Int)
 | [] => .inl ⟨rfl,rfl⟩
 | c :: r => by
  by_cases hc : c = 59
  ·subst hc
   exact .inr ⟨[],r,by simp [cutAt],by simp [Lib.index]⟩
  ·have hp : List.isPrefixOf [59] (c :: r) = false := by
    simp only [List.isPrefixOf,Bool.and_true,beq_eq_false_iff_ne,ne_eq]
    exact fun e => hc e.symm
   rcases index_cut r with ⟨h1,h2⟩ | ⟨a,b,h1,h2⟩
   ·refine .inl ⟨by unfold cutAt; rw [if_neg hc,h1]; rfl,?_⟩
    unfold Lib.index; rw [hp,h2]; rfl
   ·refine .inr ⟨c :: a,b,by unfold cutAt; rw [if_neg hc,h1]; rfl,?_⟩
    have hn : ((a.length : Int) == -1) = false := by rw [beq_eq_false_iff_ne]; omega
    unfold Lib.index; rw [hp,h2,hn]; simp
theorem cut_eq (r : List UInt8) : Lib.cut r [59] = match cutAt r with | some (a,b) => (a,b,true) | none => (r,[],false) := by
 unfold Lib.cut
 rcases index_cut r with ⟨h1,h2⟩ | ⟨a,b,h1,h2⟩
 ·rw [h1,h2]; rfl
 ·rw [h1,h2,if_pos (by omega)]
  obtain ⟨rfl,_⟩ := cutAt_some h1
  simp
def refR (r : List UInt8) : Ty × List UInt8 × Bool :=
 match cutAt r with
 | some (a,b) => if nameL a then ((4,bx a),b,true) else (t0,[],false)
 | none => (t0,[],false)
def firstR : List UInt8 -> Ty × List UInt8 × Bool
 | [] => (t0,[],false)
 | c :: r =>
  if c = 73 then ((1,bx []),r,true) else if c = 83 then ((2,bx []),r,true) else if c = 65 then ((3,bx []),r,true)
  else if c = 86 then ((5,bx []),r,true) else if c = 76 then refR r else (t0,[],false)
theorem firstR_cons (c : UInt8) (r : List UInt8) : firstR (c :: r) = if c = 73 then ((1,bx []),r,true) else if c = 83 then ((2,bx []),r,true) else if c = 65 then ((3,bx []),r,true)
  else if c = 86 then ((5,bx []),r,true) else if c = 76 then refR r else (t0,[],false) := rfl
def typeL (t : Ty) : List UInt8 := (typeT t.1 t.2).data.toList
theorem typeL_ref (a : List UInt8) : typeL (4,bx a) = 76 :: (a ++ [59]) := by
 show (if (4 : Int) = 1 then (⟨#[73]⟩ : ByteArray) else if (4 : Int) = 2 then ⟨#[83]⟩ else if (4 : Int) = 3 then ⟨#[65]⟩ else if (4 : Int) = 5 then ⟨#[86]⟩ else if (4 : Int) = 4 then (⟨#[76]⟩ ++ bx a) ++ ⟨#[59]⟩ else ⟨#[]⟩).data.toList = _
 rw [if_neg (by decide),if_neg (by decide),if_neg (by decide),if_neg (by decide),if_pos rfl]
 rw [data_app,data_app,bx_data]; rfl
theorem refR_text {r rest : List UInt8} {t : Ty} (h : refR r = (t,rest,true)) : typeL t ++ rest = 76 :: r /\ rightB t.1 t.2 = true := by
 unfold refR at h
 cases hc : cutAt r with
 | none => rw [hc] at h; simp at h
 | some p =>
  obtain ⟨a,b⟩ := p
  rw [hc] at h
  by_cases hn : nameL a = true
  ·simp only [hn,if_true,Prod.mk.injEq,and_true] at h
   obtain ⟨rfl,rfl⟩ := h
   obtain ⟨rfl,_⟩ := cutAt_some hc
   refine ⟨by rw [typeL_ref]; simp,?_⟩
   show (if (4 : Int) = 4 then nameB (bx a) else _) = true
   rw [if_pos rfl]; exact hn
  ·simp [hn] at h
theorem firstR_text {s rest : List UInt8} {t : Ty} (h : firstR s = (t,rest,true)) : typeL t ++ rest = s /\ rightB t.1 t.2 = true := by
 cases s with
 | nil => simp [firstR] at h
 | cons c r =>
  rw [firstR_cons] at h
  by_cases h1 : c = 73
  ·rw [if_pos h1] at h; simp only [Prod.mk.injEq,and_true] at h; obtain ⟨rfl,rfl⟩ := h; subst h1; exact ⟨rfl,rfl⟩
  rw [if_neg h1] at h
  by_cases h2 : c = 83
  ·rw [if_pos h2] at h; simp only [Prod.mk.injEq,and_true] at h; obtain ⟨rfl,rfl⟩ := h; subst h2; exact ⟨rfl,rfl⟩
  rw [if_neg h2] at h
  by_cases h3 : c = 65
  ·rw [if_pos h3] at h; simp only [Prod.mk.injEq,and_true] at h; obtain ⟨rfl,rfl⟩ := h; subst h3; exact ⟨rfl,rfl⟩
  rw [if_neg h3] at h
  by_cases h4 : c = 86
  ·rw [if_pos h4] at h; simp only [Prod.mk.injEq,and_true] at h; obtain ⟨rfl,rfl⟩ := h; subst h4; exact ⟨rfl,rfl⟩
  rw [if_neg h4] at h
  by_cases h5 : c = 76
  ·rw [if_pos h5] at h; subst h5; exact refR_text h
  ·rw [if_neg h5] at h; simp at h
theorem typeL_pos {t : Ty} (h : rightB t.1 t.2 = true) : 0 < (typeL t).length := by
 unfold typeL typeT
 unfold rightB at h
 by_cases h1 : t.1 = 1
 ·rw [if_pos h1]; decide
 rw [if_neg h1]
 by_cases h2 : t.1 = 2
 ·rw [if_pos h2]; decide
 rw [if_neg h2]
 by_cases h3 : t.1 = 3
 ·rw [if_pos h3]; decide
 rw [if_neg h3]
 by_cases h5 : t.1 = 5
 ·rw [if_pos h5]; decide
 rw [if_neg h5]
 by_cases h4 : t.1 = 4
 ·rw [if_pos h4,data_app]; simp
 ·rw [if_neg h4] at h
  simp only [Bool.and_eq_true,decide_eq_true_eq] at h
  omega
theorem firstR_len {s rest : List UInt8} {t : Ty} (h : firstR s = (t,rest,true)) : rest.length < s.length := by
 obtain ⟨rfl,hr⟩ := firstR_text h
 have := typeL_pos hr
 simp; omega
def oneR (s : List UInt8) : Ty × Bool := if (firstR s).2.2 && (firstR s).2.1.isEmpty then ((firstR s).1,true) else (t0,false)
def listR : Nat -> List Ty -> List UInt8 -> List Ty × List UInt8 × Bool
 | 0,_,_ => ([],[],false)
 | n + 1,ps,s =>
  if Lib.hasPrefix s [41] then (ps,s.drop 1,true)
  else if (firstR s).2.2 = false ∨ (firstR s).1.1 = 5 ∨ ps.length = 8 then ([],[],false)
  else listR n (ps ++ [(firstR s).1]) (firstR s).2.1
theorem listR_fuel : ∀ (n m : Nat) (ps : List Ty) (s : List UInt8),s.length < n -> s.length < m -> listR n ps s = listR m ps s
 | 0,_,_,_,h,_ => absurd h (Nat.not_lt_zero _)
 | _ + 1,0,_,_,_,h => absurd h (Nat.not_lt_zero _)
 | n + 1,m + 1,ps,s,h1,h2 => by
  unfold listR
  by_cases hp : Lib.hasPrefix s [41] = true
  ·rw [if_pos hp,if_pos hp]
  ·rw [if_neg hp,if_neg hp]
   by_cases hc : (firstR s).2.2 = false ∨ (firstR s).1.1 = 5 ∨ ps.length = 8
   ·rw [if_pos hc,if_pos hc]
   ·rw [if_neg hc,if_neg hc]
    have : (firstR s).2.2 = true := by
     cases hh : (firstR s).2.2
     ·exact absurd (.inl hh) hc
     ·rfl
    have hl := firstR_len (s := s) (t := (firstR s).1) (rest := (firstR s).2.1) (by rw [<- this])
    exact listR_fuel n m _ _ (by omega) (by omega)
def parseR (s : List UInt8) : List Ty × Ty × Bool :=
 if Lib.hasPrefix s [40] then
  (if (listR s.length [] (s.drop 1)).2.2 && (oneR (listR s.length [] (s.drop 1)).2.1).2 then ((listR s.length [] (s.drop 1)).1,(oneR (listR s.length [] (s.drop 1)).2.1).1,true) else ([],t0,false))
 else ([],t0,false)
def ofL (ps : List Ty) (r : Ty) : List UInt8 := 40 :: (ps.flatMap typeL ++ 41 :: typeL r)
theorem pre41 {s : List UInt8} (c : UInt8) (h : Lib.hasPrefix s [c] = true) : s = c :: s.drop 1 := by
 cases s with
 | nil => simp [Lib.hasPrefix] at h
 | cons d r =>
  simp only [Lib.hasPrefix,List.isPrefixOf,Bool.and_true,beq_iff_eq] at h
  subst h; rfl
theorem oneR_text {s : List UInt8} {t : Ty} (h : oneR s = (t,true)) : typeL t = s /\ rightB t.1 t.2 = true := by
 unfold oneR at h
 by_cases hc : ((firstR s).2.2 && (firstR s).2.1.isEmpty) = true
 ·rw [if_pos hc] at h
  simp only [Prod.mk.injEq,and_true] at h
  subst h
  simp only [Bool.and_eq_true,List.isEmpty_iff] at hc
  have := firstR_text (s := s) (t := (firstR s).1) (rest := []) (by rw [<- hc.1,<- hc.2])
  simpa using this
 ·rw [if_neg hc] at h; simp at h
theorem listR_text : ∀ (n : Nat) (ps ps' : List Ty) (s rest : List UInt8),listR n ps s = (ps',rest,true) ->
  ∃ qs,ps' = ps ++ qs /\ s = qs.flatMap typeL ++ 41 :: rest /\ (∀ q ∈ qs,rightB q.1 q.2 = true /\ ¬ q.1 = 5) /\ (ps.length <= 8 -> ps'.length <= 8)
 | 0,_,_,_,_,h => by simp [listR] at h
 | n + 1,ps,ps',s,rest,h => by
  unfold listR at h
  by_cases hp : Lib.hasPrefix s [41] = true
  ·rw [if_pos hp] at h
   simp only [Prod.mk.injEq,and_true] at h
   obtain ⟨rfl,rfl⟩ := h
   exact ⟨[],by simp,by simpa using pre41 41 hp,by simp,id⟩
  ·rw [if_neg hp] at h
   by_cases hc : (firstR s).2.2 = false ∨ (firstR s).1.1 = 5 ∨ ps.length = 8
   ·rw [if_pos hc] at h; simp at h
   ·rw [if_neg hc] at h
    obtain ⟨qs,h1,h2,h3,h4⟩ := listR_text n _ _ _ _ h
    have hb : (firstR s).2.2 = true := by
     cases hh : (firstR s).2.2
     ·exact absurd (.inl hh) hc
     ·rfl
    obtain ⟨g1,g2⟩ := firstR_text (s := s) (t := (firstR s).1) (rest := (firstR s).2.1) (by rw [<- hb])
    refine ⟨(firstR s).1 :: qs,by rw [h1]; simp,by rw [List.flatMap_cons,List.append_assoc,<- h2,g1],?_,fun hl => ?_⟩
    ·intro q hq
     rcases List.mem_cons.1 hq with rfl | hq
     ·exact ⟨g2,fun e => hc (.inr (.inl e))⟩
     ·exact h3 q hq
    ·have : ¬ ps.length = 8 := fun e => hc (.inr (.inr e))
     exact h4 (by simp; omega)
theorem parseR_text {s : List UInt8} {ps : List Ty} {r : Ty} (h : parseR s = (ps,r,true)) :
  ofL ps r = s /\ (∀ q ∈ ps,rightB q.1 q.2 = true /\ ¬ q.1 = 5) /\ ps.length <= 8 /\ rightB r.1 r.2 = true := by
 unfold parseR at h
 by_cases hp : Lib.hasPrefix s [40] = true
 ·rw [if_pos hp] at h
  by_cases hc : ((listR s.length [] (s.drop 1)).2.2 && (oneR (listR s.length [] (s.drop 1)).2.1).2) = true
  ·rw [if_pos hc] at h
   simp only [Prod.mk.injEq,and_true] at h
   obtain ⟨rfl,rfl⟩ := h
   simp only [Bool.and_eq_true] at hc
   obtain ⟨qs,h1,h2,h3,h4⟩ := listR_text s.length [] (listR s.length [] (s.drop 1)).1 (s.drop 1) (listR s.length [] (s.drop 1)).2.1 (by rw [<- hc.1])
   obtain ⟨g1,g2⟩ := oneR_text (s := (listR s.length [] (s.drop 1)).2.1) (t := (oneR (listR s.length [] (s.drop 1)).2.1).1) (by rw [<- hc.2])
   refine ⟨?_,?_,h4 (by simp),g2⟩
   ·unfold ofL
    rw [g1,h1,List.nil_append,<- h2]
    exact (pre41 40 hp).symm
   ·rw [h1,List.nil_append]; exact h3
  ·rw [if_neg hc] at h; simp at h
 ·rw [if_neg hp] at h; simp at h
end Go.Proofs.YtofnbapnmhibaaaGreat.D
namespace Go.Proofs.YtofnbapnmhibaaaGreat.D
open Go.RowKit
def Glob (w : World) : Prop := ∃ m : Int,w.cell? ⟨0,0,none⟩ = some (.int .i64 m)
theorem Glob.below {w w' : World} {B : Nat} (h : Glob w) (hb : Below B w w') (hB : w.heap.size <= B) : Glob w' := by
 obtain ⟨m,hm⟩ := h
 have := World.block_lt_of_cell? _ _ hm
 exact ⟨m,by rw [hb.cell (p := ⟨0,0,none⟩) (by simp only at this ⊢; omega)]; exact hm⟩
theorem Glob.alloc {w : World} (h : Glob w) (o : Obj) : Glob (w.alloc o) := h.below ((Below.refl w.heap.size w).alloc (Nat.le_refl _) o) (Nat.le_refl _)
theorem below_drewN {B : Nat} {a w : World} (h : Below B a w) (n : Nat) : Below B a (w.drewN n) := ⟨h.os,h.tape,h.output,h.size,h.block⟩
theorem cut_some {s : ByteArray} {a b : List UInt8} (h : cutAt s.data.toList = some (a,b)) (w : World) (hg : Glob w) (hs : s.size <= 4294967280) :
  Calls Tryz.prog 115 #[.string s,.string ⟨#[59]⟩] w fun e w' => e = .returned (.tuple #[.string (bx a),.string (bx b),.bool true]) /\ ∃ n,w' = w.drewN n := by
 obtain ⟨m,hm⟩ := hg
 refine (Tryz.strings_Cut s ⟨#[59]⟩ m w (by omega) hm).mono fun e w' ⟨h1,h2⟩ => ⟨?_,h2⟩
 rw [h1]
 have : Lib.cut s.data.toList ([59] : List UInt8) = (a,b,true) := by rw [cut_eq,h]
 show Ending.returned (.tuple #[.string ⟨(Lib.cut s.data.toList [59]).1.toArray⟩,.string ⟨(Lib.cut s.data.toList [59]).2.1.toArray⟩,.bool (Lib.cut s.data.toList [59]).2.2]) = _
 rw [this]; rfl
theorem cut_none {s : ByteArray} (h : cutAt s.data.toList = none) (w : World) (hg : Glob w) (hs : s.size <= 4294967280) :
  Calls Tryz.prog 115 #[.string s,.string ⟨#[59]⟩] w fun e w' => e = .returned (.tuple #[.string s,.string (bx []),.bool false]) /\ ∃ n,w' = w.drewN n := by
 obtain ⟨m,hm⟩ := hg
 refine (Tryz.strings_Cut s ⟨#[59]⟩ m w (by omega) hm).mono fun e w' ⟨h1,h2⟩ => ⟨?_,h2⟩
 rw [h1]
 have : Lib.cut s.data.toList ([59] : List UInt8) = (s.data.toList,[],false) := by rw [cut_eq,h]
 show Ending.returned (.tuple #[.string ⟨(Lib.cut s.data.toList [59]).1.toArray⟩,.string ⟨(Lib.cut s.data.toList [59]).2.1.toArray⟩,.bool (Lib.cut s.data.toList [59]).2.2]) = _
 rw [this]; rfl
def ret3 (x : Ty × List UInt8 × Bool) : Value := .tuple #[tyv x.1,.string (bx x.2.1),.bool x.2.2]
theorem ref_any (s : ByteArray) (w : World) (hg : Glob w) (hs : s.size <= 4294967280) :
  Calls Tryz.prog 114 #[.string s] w fun e w' => e = .returned (ret3 (refR s.data.toList)) /\ Below w.heap.size w w' := by
 cases hc : cutAt s.data.toList with
 | none =>
  have HF : Hid (refR s.data.toList = (t0,[],false)) := hid (by unfold refR; rw [hc])
  have HC := hid hc
  clear hc
  go_enter Tryz.func114,Tryz.ntmps114
  go_wp2_with fail
  refine (cut_none HC.out _ (hg.alloc _) hs).mono ?_
  rintro e w' ⟨rfl,n,rfl⟩
  go_wp2_with fail
  refine bodyPost_ret (v := .tuple #[.agg #[.int .i64 0,.string (bx [])],.string (bx []),.bool false]) (by simp [results,Tryz.results114,go_sem,bx]) rfl ⟨by rw [HF.out]; rfl,?_⟩
  repeat (first | exact Below.refl _ _ | refine Below.setCell (p := ⟨_,_,_⟩) ?_ (by simp) _ | refine below_drewN ?_ _ | refine Below.drew ?_ | refine Below.alloc ?_ (by simp) _)
 | some p =>
  obtain ⟨a,b⟩ := p
  have hl : (bx a).size <= maxLen := by
   have := Lib.size_eq s
   rw [(cutAt_some hc).1] at this
   simp at this
   rw [bx_size]; unfold maxLen; omega
  have HC := hid hc
  cases hn : nameL a with
  | false =>
   have HF : Hid (refR s.data.toList = (t0,[],false)) := hid (by unfold refR; rw [hc]; simp [hn])
   have hn' : nameB (bx a) = false := hn
   clear hn hc
   go_enter Tryz.func114,Tryz.ntmps114
   go_wp2_with fail
   refine (cut_some HC.out _ (hg.alloc _) hs).mono ?_
   rintro e w' ⟨rfl,n,rfl⟩
   go_wp2_with fail
   refine (name_any _ _ hl).mono ?_
   rintro e w' ⟨rfl,rfl⟩
   go_wp2_with fail
   refine bodyPost_ret (v := .tuple #[.agg #[.int .i64 0,.string (bx [])],.string (bx []),.bool false]) (by simp [results,Tryz.results114,go_sem,bx]) rfl ⟨by rw [HF.out]; rfl,?_⟩
   repeat (first | exact Below.refl _ _ | refine Below.setCell (p := ⟨_,_,_⟩) ?_ (by simp) _ | refine below_drewN ?_ _ | refine Below.drew ?_ | refine Below.alloc ?_ (by simp) _)
  | true =>
   have HF : Hid (refR s.data.toList = ((4,bx a),b,true)) := hid (by unfold refR; rw [hc]; simp [hn])
   have hn' : nameB (bx a) = true := hn
   clear hn hc
   go_enter Tryz.func114,Tryz.ntmps114
   go_wp2_with fail
   refine (cut_some HC.out _ (hg.alloc _) hs).mono ?_
   rintro e w' ⟨rfl,n,rfl⟩
   go_wp2_with fail
   refine (name_any _ _ hl).mono ?_
   rintro e w' ⟨rfl,rfl⟩
   go_wp2_with fail
   refine bodyPost_ret (v := .tuple #[.agg #[.int .i64 4,.string (bx a)],.string (bx b),.bool true]) (by simp [results,Tryz.results114,go_sem]) rfl ⟨by rw [HF.out]; rfl,?_⟩
   repeat (first | exact Below.refl _ _ | refine Below.setCell (p := ⟨_,_,_⟩) ?_ (by simp) _ | refine below_drewN ?_ _ | refine Below.drew ?_ | refine Below.alloc ?_ (by simp) _)
theorem drop1 (s : ByteArray) : s.extract 1 s.size = bx (s.data.toList.drop 1) := by
 rw [Lib.extract_eq,bx]
 rw [List.take_of_length_le (by rw [List.length_drop,<- Lib.size_eq]; omega)]
theorem first_any (s : ByteArray) (w : World) (hg : Glob w) (hs : s.size <= 4294967280) :
  Calls Tryz.prog 112 #[.string s] w fun e w' => e = .returned (ret3 (firstR s.data.toList)) /\ Below w.heap.size w w' := by
 cases hs1 : s.data.toList with
 | nil =>
  have h0 : s.size = 0 := by rw [Lib.size_eq,hs1]; rfl
  have HF : Hid (firstR [] = (t0,[],false)) := hid rfl
  obtain rfl : s = ByteArray.empty := by
   obtain ⟨⟨l⟩⟩ := s
   rw [show l = [] from hs1]; rfl
  clear h0 hs1
  go_enter Tryz.func112,Tryz.ntmps112
  go_wp2_with fail
  refine bodyPost_ret (v := .tuple #[.agg #[.int .i64 0,.string (bx [])],.string (bx []),.bool false]) (by simp [results,Tryz.results112,go_sem,bx]) rfl ⟨by rw [HF.out]; rfl,?_⟩
  repeat (first | exact Below.refl _ _ | refine Below.setCell (p := ⟨_,_,_⟩) ?_ (by simp) _ | refine below_drewN ?_ _ | refine Below.drew ?_ | refine Below.alloc ?_ (by simp) _)
 | cons c r =>
  rw [<- hs1]
  have h0' : 0 < s.size := by rw [Lib.size_eq,hs1]; simp
  have hE := isEmpty_ne h0'
  have hN := toList_ne h0'
  have h0c : s[0] = c := by
   have := getD0 h0'
   rw [hs1] at this
   exact this.symm
  have hr : s.extract 1 s.size = bx r := by rw [drop1,hs1]; rfl
  have HT : Hid (s.extract 1 s.size = bx r) := hid hr
  have hrl : r.length <= 4294967280 := by
   have := Lib.size_eq s
   rw [hs1] at this
   simp at this
   omega
  clear hr
  by_cases h1 : c = 73
  ·subst h1
   have HF : Hid (firstR s.data.toList = ((1,bx []),r,true)) := hid (by rw [hs1,firstR_cons]; rfl)
   have hx : (s[0].toNat : Int) = 73 := by rw [h0c]; rfl
   clear h0c hs1
   go_enter Tryz.func112,Tryz.ntmps112
   go_wp2_with fail
   go_region
   all_goals go_wp2_with fail
   all_goals refine bodyPost_ret (v := .tuple #[.agg #[.int .i64 1,.string (bx [])],.string (bx r),.bool true]) ?_ rfl ⟨by rw [HF.out]; rfl,?_⟩
   all_goals first | (simp [results,Tryz.results112,go_sem,bx,HT.out]; done) | (repeat (first | exact Below.refl _ _ | refine Below.setCell (p := ⟨_,_,_⟩) ?_ (by simp) _ | refine below_drewN ?_ _ | refine Below.drew ?_ | refine Below.alloc ?_ (by simp) _))
  have n1 : ((s[0].toNat : Int) == 73) = false := by
   rw [beq_eq_false_iff_ne,h0c]
   intro e
   exact h1 (UInt8.toNat_inj.1 (by show c.toNat = 73; omega))
  by_cases h2 : c = 83
  ·subst h2
   have HF : Hid (firstR s.data.toList = ((2,bx []),r,true)) := hid (by rw [hs1,firstR_cons]; rfl)
   have hx : (s[0].toNat : Int) = 83 := by rw [h0c]; rfl
   clear h0c hs1
   go_enter Tryz.func112,Tryz.ntmps112
   go_wp2_with fail
   go_region
   all_goals go_wp2_with fail
   all_goals refine bodyPost_ret (v := .tuple #[.agg #[.int .i64 2,.string (bx [])],.string (bx r),.bool true]) ?_ rfl ⟨by rw [HF.out]; rfl,?_⟩
   all_goals first | (simp [results,Tryz.results112,go_sem,bx,HT.out]; done) | (repeat (first | exact Below.refl _ _ | refine Below.setCell (p := ⟨_,_,_⟩) ?_ (by simp) _ | refine below_drewN ?_ _ | refine Below.drew ?_ | refine Below.alloc ?_ (by simp) _))
  have n2 : ((s[0].toNat : Int) == 83) = false := by
   rw [beq_eq_false_iff_ne,h0c]
   intro e
   exact h2 (UInt8.toNat_inj.1 (by show c.toNat = 83; omega))
  by_cases h3 : c = 65
  ·subst h3
   have HF : Hid (firstR s.data.toList = ((3,bx []),r,true)) := hid (by rw [hs1,firstR_cons]; rfl)
   have hx : (s[0].toNat : Int) = 65 := by rw [h0c]; rfl
   clear h0c hs1
   go_enter Tryz.func112,Tryz.ntmps112
   go_wp2_with fail
   go_region
   all_goals go_wp2_with fail
   all_goals refine bodyPost_ret (v := .tuple #[.agg #[.int .i64 3,.string (bx [])],.string (bx r),.bool true]) ?_ rfl ⟨by rw [HF.out]; rfl,?_⟩
   all_goals first | (simp [results,Tryz.results112,go_sem,bx,HT.out]; done) | (repeat (first | exact Below.refl _ _ | refine Below.setCell (p := ⟨_,_,_⟩) ?_ (by simp) _ | refine below_drewN ?_ _ | refine Below.drew ?_ | refine Below.alloc ?_ (by simp) _))
  have n3 : ((s[0].toNat : Int) == 65) = false := by
   rw [beq_eq_false_iff_ne,h0c]
   intro e
   exact h3 (UInt8.toNat_inj.1 (by show c.toNat = 65; omega))
  by_cases h4 : c = 86
  ·subst h4
   have HF : Hid (firstR s.data.toList = ((5,bx []),r,true)) := hid (by rw [hs1,firstR_cons]; rfl)
   have hx : (s[0].toNat : Int) = 86 := by rw [h0c]; rfl
   clear h0c hs1
   go_enter Tryz.func112,Tryz.ntmps112
   go_wp2_with fail
   go_region
   all_goals go_wp2_with fail
   all_goals refine bodyPost_ret (v := .tuple #[.agg #[.int .i64 5,.string (bx [])],.string (bx r),.bool true]) ?_ rfl ⟨by rw [HF.out]; rfl,?_⟩
   all_goals first | (simp [results,Tryz.results112,go_sem,bx,HT.out]; done) | (repeat (first | exact Below.refl _ _ | refine Below.setCell (p := ⟨_,_,_⟩) ?_ (by simp) _ | refine below_drewN ?_ _ | refine Below.drew ?_ | refine Below.alloc ?_ (by simp) _))
  have n4 : ((s[0].toNat : Int) == 86) = false := by
   rw [beq_eq_false_iff_ne,h0c]
   intro e
   exact h4 (UInt8.toNat_inj.1 (by show c.toNat = 86; omega))
  by_cases h5 : c = 76
  ·subst h5
   have HF : Hid (firstR s.data.toList = refR r) := hid (by rw [hs1,firstR_cons]; rfl)
   have hx : (s[0].toNat : Int) = 76 := by rw [h0c]; rfl
   clear h0c hs1 n1 n2 n3 n4
   go_enter Tryz.func112,Tryz.ntmps112
   go_wp2_with fail
   rw [HT.out]
   refine (ref_any (bx r) _ (hg.alloc _) (by rw [bx_size]; omega)).mono ?_
   rintro e w1 ⟨rfl,hb1⟩
   rw [bx_data]
   obtain ⟨⟨k,c⟩,rest,ok,hR⟩ : ∃ t rest ok,refR r = (t,rest,ok) := ⟨_,_,_,rfl⟩
   rw [hR,show ret3 ((k,c),rest,ok) = Value.tuple #[.agg #[.int .i64 k,.string c],.string (bx rest),.bool ok] from rfl]
   have HR := hid hR
   clear hR
   have hs1 := hb1.size
   simp at hs1
   have hc0 : w1.cell? ⟨w.heap.size,0,none⟩ = some (.int .i64 0) := (hb1.cell (p := ⟨w.heap.size,0,none⟩) (by simp)).trans (by simp)
   have hc1 : w1.cell? ⟨w.heap.size,1,none⟩ = some (.string ⟨#[]⟩) := (hb1.cell (p := ⟨w.heap.size,1,none⟩) (by simp)).trans (by simp)
   have hf0 : w1.frozen? ⟨w.heap.size,0,none⟩ = false := (hb1.frozen (p := ⟨w.heap.size,0,none⟩) (by simp)).trans (by simp)
   have hf1 : w1.frozen? ⟨w.heap.size,1,none⟩ = false := (hb1.frozen (p := ⟨w.heap.size,1,none⟩) (by simp)).trans (by simp)
   go_wp2_with fail
   have hb2 : Below w.heap.size w w1 := ((Below.refl _ w).alloc (Nat.le_refl _) _).trans (hb1.mono (by simp))
   refine bodyPost_ret (v := .tuple #[.agg #[.int .i64 k,.string c],.string (bx rest),.bool ok]) (by simp [results,Tryz.results112,go_sem,hc0,hc1]) rfl ⟨by rw [HF.out,HR.out]; rfl,?_⟩
   repeat (first | exact Below.refl _ _ | assumption | refine Below.setCell (p := ⟨_,_,_⟩) ?_ (by simp) _ | refine below_drewN ?_ _ | refine Below.drew ?_ | refine Below.alloc ?_ (by simp) _)
  ·have n5 : ((s[0].toNat : Int) == 76) = false := by
    rw [beq_eq_false_iff_ne,h0c]
    intro e
    exact h5 (UInt8.toNat_inj.1 (by show c.toNat = 76; omega))
   have HF : Hid (firstR s.data.toList = (t0,[],false)) := hid (by rw [hs1,firstR_cons,if_neg h1,if_neg h2,if_neg h3,if_neg h4,if_neg h5])
   clear h0c hs1
   go_enter Tryz.func112,Tryz.ntmps112
   go_wp2_with fail
   refine bodyPost_ret (v := .tuple #[.agg #[.int .i64 0,.string (bx [])],.string (bx []),.bool false]) (by simp [results,Tryz.results112,go_sem,bx]) rfl ⟨by rw [HF.out]; rfl,?_⟩
   repeat (first | exact Below.refl _ _ | assumption | refine Below.setCell (p := ⟨_,_,_⟩) ?_ (by simp) _ | refine below_drewN ?_ _ | refine Below.drew ?_ | refine Below.alloc ?_ (by simp) _)
end Go.Proofs.YtofnbapnmhibaaaGreat.D
namespace Go.Proofs.YtofnbapnmhibaaaGreat.D
open Go.RowKit
theorem box2 {w w1 : World} {a b : Value} {T : TypeId} (hb : Below (w.alloc (.cells #[a,b] T)).heap.size (w.alloc (.cells #[a,b] T)) w1) :
  w.heap.size < w1.heap.size /\ ¬ w.heap.size = w1.heap.size /\ w1.cell? ⟨w.heap.size,0,none⟩ = some a /\ w1.cell? ⟨w.heap.size,1,none⟩ = some b /\
   w1.frozen? ⟨w.heap.size,0,none⟩ = false /\ w1.frozen? ⟨w.heap.size,1,none⟩ = false /\ Below w.heap.size w w1 := by
 have hs1 := hb.size
 simp at hs1
 exact ⟨by omega,by omega,(hb.cell (p := ⟨w.heap.size,0,none⟩) (by simp)).trans (by simp),(hb.cell (p := ⟨w.heap.size,1,none⟩) (by simp)).trans (by simp),
  (hb.frozen (p := ⟨w.heap.size,0,none⟩) (by simp)).trans (by simp),(hb.frozen (p := ⟨w.heap.size,1,none⟩) (by simp)).trans (by simp),
  ((Below.refl _ w).alloc (Nat.le_refl _) _).trans (hb.mono (by simp))⟩
theorem one_any (s : ByteArray) (w : World) (hg : Glob w) (hs : s.size <= 4294967280) :
  Calls Tryz.prog 110 #[.string s] w fun e w' => e = .returned (.tuple #[tyv (oneR s.data.toList).1,.bool (oneR s.data.toList).2]) /\ Below w.heap.size w w' := by
 obtain ⟨⟨k,c⟩,rest,ok,hR⟩ : ∃ t rest ok,firstR s.data.toList = (t,rest,ok) := ⟨_,_,_,rfl⟩
 have HR := hid hR
 have HV : Hid (ret3 (firstR s.data.toList) = Value.tuple #[.agg #[.int .i64 k,.string c],.string (bx rest),.bool ok]) := hid (by rw [hR]; rfl)
 clear hR
 cases ok with
 | false =>
  have HF : Hid (oneR s.data.toList = (t0,false)) := hid (by unfold oneR; rw [HR.out]; rfl)
  go_enter Tryz.func110,Tryz.ntmps110
  go_wp2_with fail
  refine (first_any s _ (hg.alloc _) hs).mono ?_
  rintro e w1 ⟨rfl,hb1⟩
  rw [HV.out]
  obtain ⟨hlt1,hne1,hc0,hc1,hf0,hf1,hb2⟩ := box2 hb1
  clear hb1
  go_wp2_with fail
  refine bodyPost_ret (v := .tuple #[.agg #[.int .i64 0,.string (bx [])],.bool false]) (by simp [*,results,Tryz.results110,go_sem,bx]) rfl ⟨by rw [HF.out]; rfl,?_⟩
  repeat (first | exact Below.refl _ _ | assumption | refine Below.setCell (p := ⟨_,_,_⟩) ?_ (by first | (simp; done) | (simp; omega) | omega) _ | refine below_drewN ?_ _ | refine Below.drew ?_ | refine Below.alloc ?_ (by first | (simp; done) | (simp; omega) | omega) _)
 | true =>
  cases rest with
  | nil =>
   have HF : Hid (oneR s.data.toList = ((k,c),true)) := hid (by unfold oneR; rw [HR.out]; rfl)
   have HB : Hid (bx [] = ⟨#[]⟩) := hid rfl
   go_enter Tryz.func110,Tryz.ntmps110
   go_wp2_with fail
   refine (first_any s _ (hg.alloc _) hs).mono ?_
   rintro e w1 ⟨rfl,hb1⟩
   rw [HV.out,HB.out]
   obtain ⟨hlt1,hne1,hc0,hc1,hf0,hf1,hb2⟩ := box2 hb1
   clear hb1
   go_wp2_with fail
   refine bodyPost_ret (v := .tuple #[.agg #[.int .i64 k,.string c],.bool true]) (by simp [*,results,Tryz.results110,go_sem]) rfl ⟨by rw [HF.out]; rfl,?_⟩
   repeat (first | exact Below.refl _ _ | assumption | refine Below.setCell (p := ⟨_,_,_⟩) ?_ (by first | (simp; done) | (simp; omega) | omega) _ | refine below_drewN ?_ _ | refine Below.drew ?_ | refine Below.alloc ?_ (by first | (simp; done) | (simp; omega) | omega) _)
  | cons d rest =>
   have HF : Hid (oneR s.data.toList = (t0,false)) := hid (by unfold oneR; rw [HR.out]; rfl)
   have hp : 0 < (bx (d :: rest)).size := by rw [bx_size]; simp
   have hE := isEmpty_ne hp
   have hN := toList_ne hp
   go_enter Tryz.func110,Tryz.ntmps110
   go_wp2_with fail
   refine (first_any s _ (hg.alloc _) hs).mono ?_
   rintro e w1 ⟨rfl,hb1⟩
   rw [HV.out]
   obtain ⟨hlt1,hne1,hc0,hc1,hf0,hf1,hb2⟩ := box2 hb1
   clear hb1
   go_wp2_with fail
   refine bodyPost_ret (v := .tuple #[.agg #[.int .i64 0,.string (bx [])],.bool false]) (by simp [*,results,Tryz.results110,go_sem,bx]) rfl ⟨by rw [HF.out]; rfl,?_⟩
   repeat (first | exact Below.refl _ _ | assumption | refine Below.setCell (p := ⟨_,_,_⟩) ?_ (by first | (simp; done) | (simp; omega) | omega) _ | refine below_drewN ?_ _ | refine Below.drew ?_ | refine Below.alloc ?_ (by first | (simp; done) | (simp; omega) | omega) _)
end Go.Proofs.YtofnbapnmhibaaaGreat.D
namespace Go.Proofs.YtofnbapnmhibaaaGreat.D
open Go.RowKit
def RdT (w : World) (v : Value) (ts : List Ty) : Prop :=
 ∃ (p : Option Addr) (cap : Nat),v = .slice p ts.length cap /\ (∀ a,p = some a -> ts ≠ [] -> a.spot = none) /\ (p = none -> ts = []) /\
  ∀ a,p = some a -> ∀ (i : Nat) t,ts[i]? = some t -> w.cell? ⟨a.block,a.off + i * 2,none⟩ = some (.int .i64 t.1) /\ w.cell? ⟨a.block,a.off + i * 2 + 1,none⟩ = some (.string t.2)
theorem RdT.below {B : Nat} {w w' : World} {v : Value} {ts : List Ty} (h : RdT w v ts) (hb : Below B w w') (hB : w.heap.size <= B) : RdT w' v ts := by
 obtain ⟨p,cap,rfl,h1,h2,h3⟩ := h
 refine ⟨p,cap,rfl,h1,h2,fun a ha i t ht => ?_⟩
 obtain ⟨c0,c1⟩ := h3 a ha i t ht
 have hlt := World.block_lt_of_cell? _ _ c0
 simp only at hlt
 exact ⟨by rw [hb.cell (p := ⟨a.block,a.off + i * 2,none⟩) (by simp only; omega)]; exact c0,by rw [hb.cell (p := ⟨a.block,a.off + i * 2 + 1,none⟩) (by simp only; omega)]; exact c1⟩
def tyCells (ts : List Ty) : List Value := ts.flatMap fun t => [.int .i64 t.1,.string t.2]
theorem tyCells_app (a b : List Ty) : tyCells (a ++ b) = tyCells a ++ tyCells b := List.flatMap_append ..
theorem tyCells_get : ∀ (ts : List Ty) (i : Nat) (t : Ty),ts[i]? = some t -> (tyCells ts)[i * 2]? = some (.int .i64 t.1) /\ (tyCells ts)[i * 2 + 1]? = some (.string t.2)
 | [],i,t,h => by simp at h
 | u :: ts,0,t,h => by
  simp only [List.getElem?_cons_zero,Option.some.injEq] at h
  subst h
  exact ⟨rfl,rfl⟩
 | u :: ts,i + 1,t,h => by
  have := tyCells_get ts i t (by simpa using h)
  rw [show (i + 1) * 2 = i * 2 + 1 + 1 from by omega]
  exact this
def OwnT (w : World) (B : Nat) (v : Value) (ts : List Ty) : Prop := w.ownsRow B 25 2 v ts.length (tyCells ts)
theorem tyInfo : (Tryz.prog.info? 25).map (fun i => (i.zero,i.size,i.bytes)) = some (some (.agg #[.int .i64 0,.string ⟨#[]⟩]),2,24) := by kernel_rfl
theorem add0 (g i : Nat) : (⟨g,0,none⟩ : Addr).add i = ⟨g,0 + i,none⟩ := by unfold Addr.add; split <;> simp_all
theorem OwnT.rd {w : World} {B : Nat} {v : Value} {ts : List Ty} (h : OwnT w B v ts) : RdT w v ts := by
 have hh := h
 rcases h.2 with ⟨rfl,hn⟩ | ⟨g,cap,cur,rfl,hb,hg,h1,h2,h3,h4⟩
 ·have : ts = [] := List.eq_nil_of_length_eq_zero hn
  subst this
  exact ⟨none,0,rfl,(fun a ha => by cases ha),fun _ => rfl,fun a ha => by cases ha⟩
 ·refine ⟨some ⟨g,0,none⟩,cap,rfl,(fun a ha _ => by cases ha; rfl),(fun h => by cases h),fun a ha i t ht => ?_⟩
  cases ha
  obtain ⟨g0,g1⟩ := tyCells_get ts i t ht
  have k0 := World.ownsRow.cells hh (g := g) rfl (i * 2) _ g0
  have k1 := World.ownsRow.cells hh (g := g) rfl (i * 2 + 1) _ g1
  rw [add0] at k0 k1
  simp only [Nat.zero_add] at k0 k1 ⊢
  exact ⟨k0,k1⟩
theorem OwnT.lt {w : World} {B : Nat} {v : Value} {ts : List Ty} (h : OwnT w B v ts) {g : Nat} (hg : v.ownBlock = some g) : B <= g /\ g < w.heap.size := World.ownsRow.lt h g hg
theorem OwnT.nil (w : World) (B : Nat) : OwnT w B (.slice none 0 0) [] := ⟨by simp [tyCells],.inl ⟨rfl,rfl⟩⟩
theorem OwnT.below {w w' : World} {B C : Nat} {v : Value} {ts : List Ty} (h : OwnT w B v ts) (hb : Below C w w') (hC : w.heap.size <= C) : OwnT w' B v ts := by
 have hh := h
 refine ⟨h.1,?_⟩
 rcases h.2 with h' | ⟨g,cap,cur,e,hB,hg,r⟩
 ·exact .inl h'
 ·refine .inr ⟨g,cap,cur,e,hB,?_,r⟩
  rw [hb.block g (Nat.lt_of_lt_of_le (hh.lt (by rw [e]; rfl)).2 hC)]
  exact hg
end Go.Proofs.YtofnbapnmhibaaaGreat.D
