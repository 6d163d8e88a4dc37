/- Texts that the proof is made of, joined. No condition. -/
import Derived.Test.YtpkjlgdbaajpoaaGreatRows
import Derived.Test.YtpkjlgdbaajpoaaGreatC120
import Derived.Deep.LoopGhost
import Derived.Deep.RegionHeld3
import Derived.Outline
import Derived.Deep.RegionLaw
import Derived.IntWalk
set_option linter.unusedVariables false
set_option linter.unusedSimpArgs false
set_option maxRecDepth 100000
set_option maxHeartbeats 16000000
namespace Go.Proofs.YtpkjlgdbaajpoaaGreat.S
structure TO {α : Type} (lt : α -> α -> Bool) : Prop where
 irr : ∀ x,lt x x = false
 tr : ∀ {x y z},lt x y = true -> lt y z = true -> lt x z = true
 tot : ∀ {x y},lt x y = false -> lt y x = false -> x = y
section
variable {α : Type} {lt : α -> α -> Bool} (T : TO lt)
include T
end
section
variable {α : Type} {lt : α -> α -> Bool}
end
def at' {α : Type} (d : α) (h : List α) (k : Nat) : α := (h[k]?).getD d
def onceL {α : Type} [DecidableEq α] (l : List α) : List α := l.foldl (fun a x => if x ∈ a then a else a ++ [x]) []
def addS {α : Type} [DecidableEq α] (a : List α) (x : α) : List α := if x ∈ a then a else a ++ [x]
theorem addS_mem {α : Type} [DecidableEq α] {a : List α} {x y : α} : y ∈ addS a x ↔ y ∈ a ∨ y = x := by
 unfold addS
 split
 ·rename_i hx
  exact ⟨.inl,fun h => h.elim id (fun e => e ▸ hx)⟩
 ·simp
theorem addS_in {α : Type} [DecidableEq α] {a : List α} {x : α} (h : x ∈ a) : addS a x = a := if_pos h
theorem addS_out {α : Type} [DecidableEq α] {a : List α} {x : α} (h : x ∉ a) : addS a x = a ++ [x] := if_neg h
theorem addS_len {α : Type} [DecidableEq α] (a : List α) (x : α) : (addS a x).length <= a.length + 1 := by unfold addS; split <;> simp
theorem onceL_snoc {α : Type} [DecidableEq α] (l : List α) (x : α) : onceL (l ++ [x]) = addS (onceL l) x := by unfold onceL addS; rw [List.foldl_append]; rfl
theorem onceL_nil {α : Type} [DecidableEq α] : onceL ([] : List α) = [] := rfl
theorem rev_ind {α : Type} {P : List α -> Prop} (h0 : P []) (h1 : ∀ l x,P l -> P (l ++ [x])) (l : List α) : P l := by
 have : ∀ n (l : List α),l.length = n -> P l := by
  intro n
  induction n with
  | zero => intro l h; rw [List.length_eq_zero_iff.1 h]; exact h0
  | succ n ih =>
   intro l h
   have hne : l ≠ [] := by rintro rfl; simp at h
   rw [<- List.dropLast_concat_getLast hne]
   exact h1 _ _ (ih _ (by simp [h]))
 exact this _ l rfl
theorem onceL_mem {α : Type} [DecidableEq α] (l : List α) : ∀ y,y ∈ onceL l ↔ y ∈ l := rev_ind (P := fun l => ∀ y,y ∈ onceL l ↔ y ∈ l) (by simp [onceL_nil]) (fun l x h y => by rw [onceL_snoc,addS_mem,h y]; simp) l
theorem onceL_len {α : Type} [DecidableEq α] (l : List α) : (onceL l).length <= l.length := rev_ind (P := fun l => (onceL l).length <= l.length) (by simp [onceL_nil]) (fun l x h => by
 rw [onceL_snoc]; have := addS_len (onceL l) x; simp; omega) l
theorem once_take {α : Type} [DecidableEq α] {l : List α} {i : Nat} (h : i < l.length) : onceL (l.take (i + 1)) = addS (onceL (l.take i)) l[i] := by
 rw [List.take_succ_eq_append_getElem h,onceL_snoc]
def hasB {α : Type} [DecidableEq α] (a : List α) (x : α) : Bool := decide (x ∈ a)
theorem hasB_iff {α : Type} [DecidableEq α] {a : List α} {x : α} : hasB a x = true ↔ x ∈ a := decide_eq_true_iff
theorem hasB_in {α : Type} [DecidableEq α] {a : List α} {x : α} (h : x ∈ a) : hasB a x = true := decide_eq_true h
theorem hasB_out {α : Type} [DecidableEq α] {a : List α} {x : α} (h : x ∉ a) : hasB a x = false := decide_eq_false h
theorem hasB_eq {α : Type} [DecidableEq α] {a b : List α} {x : α} (h : x ∈ a ↔ x ∈ b) : hasB a x = hasB b x := by unfold hasB; rw [decide_eq_decide]; exact h
end Go.Proofs.YtpkjlgdbaajpoaaGreat.S
namespace Go.Proofs.YtpkjlgdbaajpoaaGreat.R
open Go.RowKit Go.Proofs.YtpkjlgdbaajpoaaGreat.D Go.Proofs.YtpkjlgdbaajpoaaGreat.O Go.Proofs.YtpkjlgdbaajpoaaGreat.A Go.Proofs.YtpkjlgdbaajpoaaGreat.S
abbrev Sk : Type := ByteArray × ByteArray × Int × List ByteArray
def skOf (c : Cls) : Sk := (c.name,c.super,c.kind,c.ifaces)
def objT : ByteArray := ⟨#[79,98,106,101,99,116]⟩
def fltT : ByteArray := ⟨#[70,97,117,108,116]⟩
def fivT : List ByteArray := [⟨#[78,117,108,108,70,97,117,108,116]⟩,⟨#[66,111,117,110,100,115,70,97,117,108,116]⟩,⟨#[67,97,115,116,70,97,117,108,116]⟩,⟨#[90,101,114,111,70,97,117,108,116]⟩,⟨#[83,105,122,101,70,97,117,108,116]⟩]
def bltS (n : ByteArray) : Option ByteArray := if n = objT then some es else if n = fltT then some objT else if hasB fivT n = true then some fltT else none
def bltC (n : ByteArray) : Option Cls := (bltS n).map fun s => ⟨n,s,[],1,[],[]⟩
def findS (T : List Sk) (n : ByteArray) : Option Sk := match bltS n with | some s => some (n,s,1,[]) | none => T.find? (fun c => decide (c.1 = n))
def findC (K : List Cls) (n : ByteArray) : Option Cls := match bltC n with | some c => some c | none => K.find? (fun c => decide (c.name = n))
def noC : Cls := ⟨es,es,[],0,[],[]⟩
def superT (T : List Sk) (n : ByteArray) : ByteArray := match findS T n with | some c => c.2.1 | none => es
def kindT (T : List Sk) (n : ByteArray) : Int := match findS T n with | some c => c.2.2.1 | none => 0
def ifsT (T : List Sk) (n : ByteArray) : List ByteArray := match findS T n with | some c => c.2.2.2 | none => []
def knownT (T : List Sk) (n : ByteArray) : Bool := (findS T n).isSome
def chainF (T : List Sk) : Nat -> List ByteArray -> ByteArray -> List ByteArray × Bool
 | 0,l,n => (l,hasB l n)
 | f + 1,l,n => if (knownT T n && !hasB l n) = true then chainF T f (l ++ [n]) (superT T n) else (l,hasB l n)
def chainT (T : List Sk) (n : ByteArray) : List ByteArray × Bool := chainF T (T.length + 8) [] n
def closedF (T : List Sk) : Nat -> List ByteArray -> List ByteArray -> List ByteArray
 | 0,out,_ => out
 | _ + 1,out,[] => out
 | f + 1,out,n :: left => if (knownT T n && !hasB out n) = true then closedF T f (out ++ [n]) (ifsT T n ++ left) else closedF T f out left
def costT (out : List ByteArray) : List Sk -> Nat
 | [] => 0
 | c :: T => (if hasB out c.1 = true then 0 else c.2.2.2.length) + costT out T
def closedT (T : List Sk) (l : List ByteArray) : List ByteArray := closedF T (l.length + costT [] T) [] l
def wideT (T : List Sk) (n : ByteArray) : List ByteArray := (chainT T n).1.flatMap (ifsT T)
def ifacesT (T : List Sk) (n : ByteArray) : List ByteArray := closedT T (wideT T n)
def subT (T : List Sk) (a b : ByteArray) : Bool :=
 if knownT T a = true then if knownT T b = true then if a = b then true else if b = objT then true else hasB (chainT T a).1 b || hasB (ifacesT T a) b else false else false
def firstIn (l : List ByteArray) : List ByteArray -> ByteArray
 | [] => objT
 | x :: m => if hasB l x = true then x else firstIn l m
def commonT (T : List Sk) (a b : ByteArray) : ByteArray :=
 if a = b then firstIn (chainT T b).1 (chainT T a).1 else if kindT T a = 4 then objT else if kindT T b = 4 then objT else firstIn (chainT T b).1 (chainT T a).1
def keep1 (K : List Cls) (c : Cls) : List Cls := if knownT (K.map skOf) c.name = true then K else K ++ [c]
def keepL (a : List Cls) : List Cls := a.foldl keep1 []
theorem keepL_snoc (l : List Cls) (c : Cls) : keepL (l ++ [c]) = keep1 (keepL l) c := by unfold keepL; rw [List.foldl_append]; rfl
theorem keep_take {l : List Cls} {i : Nat} {c : Cls} (h : l[i]? = some c) : keepL (l.take (i + 1)) = keep1 (keepL (l.take i)) c := by
 obtain ⟨hi,rfl⟩ := List.getElem?_eq_some_iff.1 h
 rw [List.take_succ_eq_append_getElem hi,keepL_snoc]
theorem keep1_len (K : List Cls) (c : Cls) : (keep1 K c).length <= K.length + 1 := by unfold keep1; split <;> simp
theorem keepL_len (l : List Cls) : (keepL l).length <= l.length := rev_ind (P := fun l => (keepL l).length <= l.length) (by simp [keepL]) (fun l c h => by rw [keepL_snoc]; have := keep1_len (keepL l) c; simp; omega) l
theorem keepL_mem (l : List Cls) : ∀ c ∈ keepL l,c ∈ l := rev_ind (P := fun l => ∀ c ∈ keepL l,c ∈ l) (by simp [keepL]) (fun l c h x hx => by
 rw [keepL_snoc] at hx
 unfold keep1 at hx
 split at hx
 ·exact List.mem_append_left _ (h x hx)
 ·rcases List.mem_append.1 hx with hx | hx
  ·exact List.mem_append_left _ (h x hx)
  ·exact List.mem_append_right _ hx) l
theorem find_nm {T : List Sk} {n : ByteArray} {c : Sk} (h : T.find? (fun c => decide (c.1 = n)) = some c) : c.1 = n := by
 have := List.find?_some h
 simpa using this
theorem find_sk (K : List Cls) (n : ByteArray) : (K.map skOf).find? (fun c => decide (c.1 = n)) = (K.find? (fun c => decide (c.name = n))).map skOf := by
 induction K with
 | nil => rfl
 | cons c K ih =>
  rw [List.map_cons,List.find?_cons,List.find?_cons]
  by_cases h : c.name = n
  ·have : (skOf c).1 = n := h
   rw [decide_eq_true h,decide_eq_true this]; rfl
  ·have : ¬ (skOf c).1 = n := h
   rw [decide_eq_false h,decide_eq_false this]; exact ih
theorem findS_sk (K : List Cls) (n : ByteArray) : findS (K.map skOf) n = (findC K n).map skOf := by
 unfold findS findC bltC
 cases bltS n with
 | some s => rfl
 | none => exact find_sk K n
theorem known_sk (K : List Cls) (n : ByteArray) : knownT (K.map skOf) n = (findC K n).isSome := by unfold knownT; rw [findS_sk]; cases findC K n <;> rfl
theorem super_sk (K : List Cls) (n : ByteArray) : superT (K.map skOf) n = ((findC K n).getD noC).super := by unfold superT; rw [findS_sk]; cases findC K n <;> rfl
theorem kind_sk (K : List Cls) (n : ByteArray) : kindT (K.map skOf) n = ((findC K n).getD noC).kind := by unfold kindT; rw [findS_sk]; cases findC K n <;> rfl
theorem ifs_sk (K : List Cls) (n : ByteArray) : ifsT (K.map skOf) n = ((findC K n).getD noC).ifaces := by unfold ifsT; rw [findS_sk]; cases findC K n <;> rfl
theorem find_pos (K : List Cls) (n : ByteArray) : (n ∈ K.map (·.name) -> K[pos (K.map (·.name)) n]? = K.find? (fun c => decide (c.name = n)) /\ (K.find? (fun c => decide (c.name = n))).isSome = true) /\ (n ∉ K.map (·.name) -> K.find? (fun c => decide (c.name = n)) = none) := by
 induction K with
 | nil => exact ⟨fun h => by simp at h,fun _ => rfl⟩
 | cons c K ih =>
  by_cases h : c.name = n
  ·refine ⟨fun _ => ?_,fun h' => absurd (by rw [<- h]; simp) h'⟩
   have e : pos ((c :: K).map (·.name)) n = 0 := by unfold pos; rw [List.map_cons,List.findIdx_cons,decide_eq_true h]; rfl
   rw [e,List.find?_cons,decide_eq_true h]
   exact ⟨rfl,rfl⟩
  ·have h1 : (c :: K).find? (fun c => decide (c.name = n)) = K.find? (fun c => decide (c.name = n)) := by rw [List.find?_cons,decide_eq_false h]
   have e : pos ((c :: K).map (·.name)) n = pos (K.map (·.name)) n + 1 := by unfold pos; rw [List.map_cons,List.findIdx_cons,decide_eq_false h]; rfl
   rw [h1,e,List.getElem?_cons_succ]
   refine ⟨fun h' => ih.1 ?_,fun h' => ih.2 (fun h2 => h' (by rw [List.map_cons]; exact List.mem_cons_of_mem _ h2))⟩
   rw [List.map_cons] at h'
   rcases List.mem_cons.1 h' with e | h'
   ·exact absurd e.symm h
   ·exact h'
theorem find_in {K : List Cls} {n : ByteArray} (hb : bltS n = none) (h : n ∈ K.map (·.name)) : ∃ c,K[pos (K.map (·.name)) n]? = some c /\ findC K n = some c := by
 obtain ⟨h1,h2⟩ := (find_pos K n).1 h
 obtain ⟨c,hc⟩ := Option.isSome_iff_exists.1 h2
 refine ⟨c,h1.trans hc,?_⟩
 unfold findC bltC
 rw [hb]
 exact hc
theorem find_out {K : List Cls} {n : ByteArray} (hb : bltS n = none) (h : n ∉ K.map (·.name)) : findC K n = none := by
 unfold findC bltC
 rw [hb]
 exact (find_pos K n).2 h
theorem find_blt {K : List Cls} {n s : ByteArray} (hb : bltS n = some s) : findC K n = some ⟨n,s,[],1,[],[]⟩ := by
 unfold findC bltC
 rw [hb]
 rfl
theorem not_name {K : List Cls} {n : ByteArray} (h : knownT (K.map skOf) n = false) : n ∉ K.map (·.name) := by
 intro hn
 rw [known_sk] at h
 cases hb : bltS n with
 | some s => rw [find_blt hb] at h; cases h
 | none =>
  obtain ⟨c,_,hc⟩ := find_in hb hn
  rw [hc] at h
  cases h
def allN (T : List Sk) : List ByteArray := objT :: fltT :: fivT ++ T.map (·.1)
theorem allN_len (T : List Sk) : (allN T).length = T.length + 7 := by unfold allN fivT; simp
theorem known_all {T : List Sk} {n : ByteArray} (h : knownT T n = true) : n ∈ allN T := by
 unfold allN
 unfold knownT findS at h
 cases hb : bltS n with
 | some s =>
  unfold bltS at hb
  by_cases h1 : n = objT
  ·simp [h1]
  ·by_cases h2 : n = fltT
   ·simp [h2]
   ·rw [if_neg h1,if_neg h2] at hb
    by_cases h3 : hasB fivT n = true
    ·have := hasB_iff.1 h3
     exact List.mem_append_left _ (List.mem_cons_of_mem _ (List.mem_cons_of_mem _ this))
    ·rw [if_neg h3] at hb; cases hb
 | none =>
  rw [hb] at h
  have h' : (T.find? (fun c => decide (c.1 = n))).isSome = true := h
  obtain ⟨c,hc⟩ := Option.isSome_iff_exists.1 h'
  have h1 := List.mem_of_find?_eq_some hc
  have h2 := find_nm hc
  exact List.mem_append_right _ (List.mem_map.2 ⟨c,h1,h2⟩)
def Kn (T : List Sk) (l : List ByteArray) : Prop := l.Nodup /\ ∀ x ∈ l,knownT T x = true
theorem Kn.nil (T : List Sk) : Kn T [] := ⟨List.nodup_nil,fun x h => by cases h⟩
theorem Kn.len {T : List Sk} {l : List ByteArray} (h : Kn T l) : l.length <= T.length + 7 := by
 rw [<- allN_len]
 exact h.1.length_le_of_subset (fun x hx => known_all (h.2 x hx))
theorem Kn.snoc {T : List Sk} {l : List ByteArray} {n : ByteArray} (h : Kn T l) (hk : knownT T n = true) (hn : n ∉ l) : Kn T (l ++ [n]) := by
 refine ⟨?_,fun x hx => ?_⟩
 ·rw [List.nodup_append]
  exact ⟨h.1,by simp,fun y hy z hz e => hn (by rw [List.mem_singleton.1 hz] at e; rw [<- e]; exact hy)⟩
 ·rcases List.mem_append.1 hx with hx | hx
  ·exact h.2 x hx
  ·rw [List.mem_singleton.1 hx]; exact hk
theorem chain_next {T : List Sk} {f : Nat} {l : List ByteArray} {n : ByteArray} (hk : knownT T n = true) (hn : hasB l n = false) : chainF T (f + 1) l n = chainF T f (l ++ [n]) (superT T n) := by
 show (if _ then _ else _) = _
 rw [hk,hn]; rfl
theorem chain_stop {T : List Sk} {f : Nat} {l : List ByteArray} {n : ByteArray} (h : knownT T n = false ∨ hasB l n = true) : chainF T f l n = (l,hasB l n) := by
 cases f with
 | zero => rfl
 | succ f =>
  show (if _ then _ else _) = _
  rw [if_neg]
  rcases h with h | h <;> rw [h] <;> simp
theorem chainF_kn {T : List Sk} : ∀ (f : Nat) {l : List ByteArray} {n : ByteArray},Kn T l -> Kn T (chainF T f l n).1
 | 0,l,n,h => h
 | f + 1,l,n,h => by
  by_cases hk : knownT T n = true
  ·by_cases hn : hasB l n = true
   ·rw [chain_stop (.inr hn)]; exact h
   ·rw [chain_next hk (by simpa using hn)]
    exact chainF_kn f (h.snoc hk (fun hh => hn (hasB_in hh)))
  ·rw [chain_stop (.inl (by simpa using hk))]; exact h
theorem chain_kn (T : List Sk) (n : ByteArray) : Kn T (chainT T n).1 := chainF_kn _ (Kn.nil T)
theorem cost_le (out : List ByteArray) (n : ByteArray) : ∀ T : List Sk,costT (out ++ [n]) T <= costT out T
 | [] => Nat.le_refl _
 | c :: T => by
  have := cost_le out n T
  unfold costT
  by_cases h : hasB out c.1 = true
  ·have h2 : hasB (out ++ [n]) c.1 = true := hasB_in (List.mem_append_left _ (hasB_iff.1 h))
   rw [if_pos h,if_pos h2]; omega
  ·rw [if_neg h]
   split <;> omega
theorem cost_step {out : List ByteArray} {n : ByteArray} (hn : n ∉ out) : ∀ {T : List Sk} {c : Sk},c ∈ T -> c.1 = n -> c.2.2.2.length + costT (out ++ [n]) T <= costT out T
 | [],c,h,_ => by cases h
 | d :: T,c,h,e => by
  unfold costT
  rcases List.mem_cons.1 h with rfl | h
  ·have := cost_le out n T
   have h1 : ¬ hasB out c.1 = true := by rw [e,hasB_out hn]; simp
   have h2 : hasB (out ++ [n]) c.1 = true := hasB_in (by rw [e]; simp)
   rw [if_neg h1,if_pos h2]
   omega
  ·have := cost_step hn h e
   by_cases h2 : hasB out d.1 = true
   ·have h3 : hasB (out ++ [n]) d.1 = true := hasB_in (List.mem_append_left _ (hasB_iff.1 h2))
    rw [if_pos h2,if_pos h3]; omega
   ·rw [if_neg h2]
    split <;> omega
theorem cost_ifs {T : List Sk} {out : List ByteArray} {n : ByteArray} (hn : hasB out n = false) : (ifsT T n).length + costT (out ++ [n]) T <= costT out T := by
 have hn' : n ∉ out := fun h => by rw [hasB_in h] at hn; cases hn
 unfold ifsT findS
 cases bltS n with
 | some s => simpa using cost_le out n T
 | none =>
  cases hc : T.find? (fun c => decide (c.1 = n)) with
  | none => simpa using cost_le out n T
  | some c => exact cost_step hn' (List.mem_of_find?_eq_some hc) (find_nm hc)
theorem closed_next {T : List Sk} {f : Nat} {out left : List ByteArray} {n : ByteArray} (hk : knownT T n = true) (hn : hasB out n = false) : closedF T (f + 1) out (n :: left) = closedF T f (out ++ [n]) (ifsT T n ++ left) := by
 show (if _ then _ else _) = _
 rw [hk,hn]; rfl
theorem closed_skip {T : List Sk} {f : Nat} {out left : List ByteArray} {n : ByteArray} (h : knownT T n = false ∨ hasB out n = true) : closedF T (f + 1) out (n :: left) = closedF T f out left := by
 show (if _ then _ else _) = _
 rw [if_neg]
 rcases h with h | h <;> rw [h] <;> simp
theorem closed_nil {T : List Sk} {f : Nat} {out : List ByteArray} : closedF T f out [] = out := by cases f <;> rfl
theorem closedF_kn {T : List Sk} : ∀ (f : Nat) {out left : List ByteArray},Kn T out -> Kn T (closedF T f out left)
 | 0,out,left,h => h
 | f + 1,out,[],h => h
 | f + 1,out,n :: left,h => by
  by_cases hk : knownT T n = true
  ·by_cases hn : hasB out n = true
   ·rw [closed_skip (.inr hn)]; exact closedF_kn f h
   ·rw [closed_next hk (by simpa using hn)]
    exact closedF_kn f (h.snoc hk (fun hh => hn (hasB_in hh)))
  ·rw [closed_skip (.inl (by simpa using hk))]; exact closedF_kn f h
theorem closed_kn (T : List Sk) (l : List ByteArray) : Kn T (closedT T l) := closedF_kn _ (Kn.nil T)
def SzT (T : List Sk) : Prop := T.length <= 1000 /\ (∀ c ∈ T,c.1.size <= maxLen /\ c.2.1.size <= maxLen /\ c.2.2.2.length <= 100 /\ ∀ i ∈ c.2.2.2,i.size <= maxLen)
theorem cost_few : ∀ {T : List Sk},(∀ c ∈ T,c.2.2.2.length <= 100) -> costT [] T <= T.length * 100
 | [],_ => Nat.le_refl _
 | c :: T,h => by
  have h1 := cost_few (T := T) (fun d hd => h d (List.mem_cons_of_mem _ hd))
  have h2 := h c (by simp)
  unfold costT
  rw [if_neg (show ¬ hasB [] c.1 = true by simp [hasB]),List.length_cons,Nat.succ_mul]
  omega
theorem SzT.cost {T : List Sk} (h : SzT T) : costT [] T <= 100000 := by
 have h1 := cost_few (fun c hc => (h.2 c hc).2.2.1)
 have h2 := h.1
 omega
theorem find_cases (T : List Sk) (n : ByteArray) : (∃ s,bltS n = some s /\ findS T n = some (n,s,1,[])) ∨ (bltS n = none /\ ∃ c ∈ T,c.1 = n /\ findS T n = some c) ∨ (bltS n = none /\ findS T n = none) := by
 unfold findS
 cases bltS n with
 | some s => exact .inl ⟨s,rfl,rfl⟩
 | none =>
  cases hc : T.find? (fun c => decide (c.1 = n)) with
  | none => exact .inr (.inr ⟨rfl,rfl⟩)
  | some c => exact .inr (.inl ⟨rfl,c,List.mem_of_find?_eq_some hc,find_nm hc,rfl⟩)
theorem blt_size {n s : ByteArray} (h : bltS n = some s) : s.size <= 100 := by
 unfold bltS at h
 split at h
 ·cases h; decide
 ·split at h
  ·cases h; decide
  ·split at h
   ·cases h; decide
   ·cases h
theorem SzT.super {T : List Sk} (h : SzT T) (n : ByteArray) : (superT T n).size <= maxLen := by
 unfold superT
 rcases find_cases T n with ⟨s,hb,e⟩ | ⟨_,c,hc,_,e⟩ | ⟨_,e⟩ <;> rw [e]
 ·exact Nat.le_trans (blt_size hb) (by unfold maxLen; omega)
 ·exact (h.2 c hc).2.1
 ·exact Nat.zero_le _
theorem SzT.ifs {T : List Sk} (h : SzT T) (n : ByteArray) : (ifsT T n).length <= 100 /\ ∀ i ∈ ifsT T n,i.size <= maxLen := by
 unfold ifsT
 rcases find_cases T n with ⟨s,hb,e⟩ | ⟨_,c,hc,_,e⟩ | ⟨_,e⟩ <;> rw [e]
 ·exact ⟨Nat.zero_le _,fun i hi => by cases hi⟩
 ·exact (h.2 c hc).2.2
 ·exact ⟨Nat.zero_le _,fun i hi => by cases hi⟩
theorem flat_few {T : List Sk} (h : SzT T) : ∀ l : List ByteArray,(l.flatMap (ifsT T)).length <= l.length * 100
 | [] => Nat.le_refl _
 | x :: l => by
  have := flat_few h l
  have := (h.ifs x).1
  rw [List.flatMap_cons,List.length_append,List.length_cons,Nat.succ_mul]
  omega
theorem SzT.wide {T : List Sk} (h : SzT T) (n : ByteArray) : (wideT T n).length <= 200000 /\ ∀ i ∈ wideT T n,i.size <= maxLen := by
 refine ⟨?_,fun i hi => ?_⟩
 ·have h1 := flat_few h (chainT T n).1
  have h2 := (chain_kn T n).len
  have h3 := h.1
  unfold wideT
  omega
 ·obtain ⟨x,_,hx⟩ := List.mem_flatMap.1 hi
  exact (h.ifs x).2 i hx
theorem SzT.kn {T : List Sk} (h : SzT T) {l : List ByteArray} (hl : Kn T l) : ∀ x ∈ l,x.size <= maxLen := by
 intro x hx
 have := hl.2 x hx
 unfold knownT at this
 rcases find_cases T x with ⟨s,hb,e⟩ | ⟨_,c,hc,e1,e⟩ | ⟨_,e⟩
 ·have h3 := known_all (hl.2 x hx)
  unfold bltS at hb
  split at hb
  ·rename_i e; subst e; exact Nat.le_trans (by decide : objT.size <= 100) (by unfold maxLen; omega)
  ·split at hb
   ·rename_i e; subst e; exact Nat.le_trans (by decide : fltT.size <= 100) (by unfold maxLen; omega)
   ·split at hb
    ·rename_i e
     have h4 : ∀ y ∈ fivT,y.size <= 100 := by decide
     exact Nat.le_trans (h4 x (hasB_iff.1 e)) (by unfold maxLen; omega)
    ·cases hb
 ·rw [<- e1]; exact (h.2 c hc).1
 ·rw [e] at this; cases this
end Go.Proofs.YtpkjlgdbaajpoaaGreat.R
namespace Go.Proofs.YtpkjlgdbaajpoaaGreat.R
open Go.RowKit Go.Proofs.YtpkjlgdbaajpoaaGreat.D Go.Proofs.YtpkjlgdbaajpoaaGreat.O Go.Proofs.YtpkjlgdbaajpoaaGreat.A
def tabT (b3 b6 b2 : Bool) : List Sk :=
 (fun a : List Sk => if b2 then a.reverse else a)
 [(⟨#[77,97,105,110]⟩,⟨#[79,98,106,101,99,116]⟩,1,[]),(⟨#[73]⟩,⟨#[79,98,106,101,99,116]⟩,4,[]),(⟨#[74]⟩,⟨#[79,98,106,101,99,116]⟩,4,[⟨#[73]⟩]),(⟨#[66,97,115,101]⟩,⟨#[79,98,106,101,99,116]⟩,2,[⟨#[73]⟩]),(⟨#[65]⟩,⟨#[66,97,115,101]⟩,1,[]),(⟨#[66]⟩,⟨#[65]⟩,if b3 then 3 else 1,[]),(⟨#[77,105,100]⟩,⟨#[66,97,115,101]⟩,2,whenS b6 [⟨#[74]⟩]),(⟨#[67]⟩,⟨#[77,105,100]⟩,1,[]),(⟨#[68]⟩,⟨#[66,97,115,101]⟩,3,[⟨#[74]⟩]),(⟨#[69,114,114]⟩,⟨#[70,97,117,108,116]⟩,1,[]),(⟨#[69,114,114,50]⟩,⟨#[69,114,114]⟩,1,[]),(⟨#[71,111,110,101]⟩,⟨#[65]⟩,1,[]),(⟨#[85,116,105,108]⟩,⟨#[79,98,106,101,99,116]⟩,1,[])]
theorem seat_sk (k0 k1 k2 k3 : Nat) : (archS k0 k1 k2 k3 [] []).map skOf = tabT (bitS k0 3) (bitS k0 6) (bitS k2 2) := by
 unfold archS familyS tabT
 cases bitS k0 3 <;> cases bitS k0 6 <;> cases bitS k2 2 <;> rfl
theorem keep_sk : ∀ l : List Cls,(keepL l).map skOf = l.foldl (fun T c => if knownT T c.name = true then T else T ++ [skOf c]) [] := fun l => S.rev_ind (P := fun l => (keepL l).map skOf = l.foldl (fun T c => if knownT T c.name = true then T else T ++ [skOf c]) []) rfl (fun l c h => by
 rw [keepL_snoc,List.foldl_append]
 show (keep1 (keepL l) c).map skOf = if knownT _ c.name = true then _ else _
 rw [<- h]
 unfold keep1
 split <;> simp) l
theorem keep_sk2 (l : List Cls) : (keepL l).map skOf = (l.map skOf).foldl (fun T c => if knownT T c.1 = true then T else T ++ [c]) [] := by rw [keep_sk,List.foldl_map]; rfl
theorem tab_keep (b3 b6 b2 : Bool) : (tabT b3 b6 b2).foldl (fun T c => if knownT T c.1 = true then T else T ++ [c]) [] = tabT b3 b6 b2 := by
 cases b3 <;> cases b6 <;> cases b2 <;> decide +kernel
theorem seat_kept (k0 k1 k2 k3 : Nat) : (keepL (archS k0 k1 k2 k3 [] [])).map skOf = tabT (bitS k0 3) (bitS k0 6) (bitS k2 2) := by rw [keep_sk2,seat_sk,tab_keep]
theorem szT_small {T : List Sk} (h : (decide (T.length <= 1000) && T.all fun c => decide (c.1.size <= 1000) && decide (c.2.1.size <= 1000) && decide (c.2.2.2.length <= 100) && c.2.2.2.all fun i => decide (i.size <= 1000)) = true) : SzT T := by
 simp only [Bool.and_eq_true,decide_eq_true_eq,List.all_eq_true] at h
 have hm : 1000 <= maxLen := by unfold maxLen; omega
 refine ⟨h.1,fun c hc => ?_⟩
 obtain ⟨⟨⟨h1,h2⟩,h3⟩,h4⟩ := h.2 c hc
 exact ⟨Nat.le_trans h1 hm,Nat.le_trans h2 hm,h3,fun i hi => Nat.le_trans (h4 i hi) hm⟩
theorem tab_sz (b3 b6 b2 : Bool) : SzT (tabT b3 b6 b2) := szT_small (by cases b3 <;> cases b6 <;> cases b2 <;> decide +kernel)
theorem seat_sz8 (k0 k1 k2 k3 : Nat) : SzT ((archS k0 k1 k2 k3 [] []).map skOf) := by rw [seat_sk]; exact tab_sz _ _ _
end Go.Proofs.YtpkjlgdbaajpoaaGreat.R
namespace Go.Proofs.YtpkjlgdbaajpoaaGreat.R
open Go.RowKit Go.Proofs.YtpkjlgdbaajpoaaGreat.D Go.Proofs.YtpkjlgdbaajpoaaGreat.O Go.Proofs.YtpkjlgdbaajpoaaGreat.A
def nulT : Ty := (6,es)
def topT : Ty := (7,es)
def joinT (T : List Sk) (a b : Ty) : Ty :=
 if a = b then a else if a = nulT /\ (b.1 = 3 ∨ b.1 = 4) then b else if b = nulT /\ (a.1 = 3 ∨ a.1 = 4) then a else if a.1 = 4 /\ b.1 = 4 then (4,commonT T a.2 b.2) else topT
def fitsT (T : List Sk) (a b : Ty) : Bool :=
 if a.1 = 4 /\ b.1 = 4 then decide (a = b) || subT T a.2 b.2 else if a.1 = 6 /\ (b.1 = 3 ∨ b.1 = 4) then true else decide (a = b) && decide (a.1 ≠ 7)
def refB (a : Ty) : Bool := decide (a.1 = 3) || (decide (a.1 = 4) || decide (a.1 = 6))
def allT (T : List Sk) : List Ty -> List Ty -> List Ty
 | a :: l,b :: m => joinT T a b :: allT T l m
 | _,_ => []
def nmJ : List ByteArray := [⟨#[65]⟩,⟨#[66]⟩,⟨#[66,97,115,101]⟩,⟨#[73]⟩,⟨#[74]⟩,⟨#[77,105,100]⟩,⟨#[67]⟩,⟨#[68]⟩,⟨#[69,114,114]⟩,⟨#[79,98,106,101,99,116]⟩,⟨#[70,97,117,108,116]⟩,⟨#[78,111,98,111,100,121]⟩]
end Go.Proofs.YtpkjlgdbaajpoaaGreat.R
namespace Go.Proofs.YtpkjlgdbaajpoaaGreat.R
open Go.RowKit Go.Proofs.YtpkjlgdbaajpoaaGreat.D Go.Proofs.YtpkjlgdbaajpoaaGreat.O Go.Proofs.YtpkjlgdbaajpoaaGreat.A
abbrev Fr := Bool × List Ty × List Ty
def noFr : Fr := (false,[],[])
def intT : Ty := (1,es)
def strT : Ty := (2,es)
def arrT : Ty := (3,es)
def simP (o : Int) : Option (List Ty × List Ty) :=
 if o = 1 ∨ o = 42 then some ([],[intT]) else if o = 2 then some ([],[strT]) else if o = 3 then some ([],[nulT]) else if o = 8 ∨ o = 14 ∨ o = 15 then some ([intT,intT],[intT]) else if o = 13 then some ([intT],[intT]) else if o = 18 then some ([intT],[strT]) else if o = 19 then some ([],[]) else if o = 21 then some ([intT],[arrT]) else if o = 43 then some ([intT],[]) else none
def fitAll (T : List Sk) (S w : List Ty) : Bool := (S.reverse.zip w).all fun p => fitsT T p.1 p.2
def lastT (S : List Ty) : Ty := S.getLastD topT
def stepP (T : List Sk) (ret : Ty) (f : Fr) (o k : Int) : Fr × Int :=
 if f.1 = false then (noFr,28) else
 match simP o with
 | some (w,l) => if f.2.2.length < w.length then (noFr,30) else if fitAll T f.2.2 w = false then (noFr,29) else if 100 < f.2.2.length - w.length + l.length then (noFr,30) else ((true,f.2.1,f.2.2.take (f.2.2.length - w.length) ++ l),0)
 | none =>
  if o = 4 then (if (f.2.1.getD k.toNat topT).1 = 7 then (noFr,29) else if 100 < f.2.2.length + 1 then (noFr,30) else ((true,f.2.1,f.2.2 ++ [f.2.1.getD k.toNat topT]),0))
  else if o = 40 then (if ret.1 = 5 then ((true,f.2.1,f.2.2),0) else (noFr,28))
  else if f.2.2.length < 1 then (noFr,30)
  else if o = 5 then (if (lastT f.2.2).1 = 7 then (noFr,29) else ((true,f.2.1.set k.toNat (lastT f.2.2),f.2.2.take (f.2.2.length - 1)),0))
  else if o = 6 then ((true,f.2.1,f.2.2.take (f.2.2.length - 1)),0)
  else if o = 7 then (if 100 < f.2.2.length + 1 then (noFr,30) else ((true,f.2.1,f.2.2 ++ [lastT f.2.2]),0))
  else if o = 39 then (if ret.1 = 5 then (noFr,28) else if fitsT T (lastT f.2.2) ret = false then (noFr,29) else ((true,f.2.1,f.2.2.take (f.2.2.length - 1)),0))
  else (noFr,28)
def okOp (o k : Int) (L : List Ty) : Prop := (o ∈ [1,2,3,6,7,8,13,14,15,18,19,21,39,40,42,43] /\ k = 0) ∨ ((o = 4 ∨ o = 5) /\ 0 <= k /\ k < (L.length : Int))
def joinF (T : List Sk) (a b : Fr) : Fr × Int :=
 if a.1 = false then (b,0) else if b.1 = false then (a,0) else if ¬ a.2.2.length = b.2.2.length then (noFr,30) else if ¬ a.2.1.length = b.2.1.length then (noFr,28) else ((true,allT T a.2.1 b.2.1,allT T a.2.2 b.2.2),0)
def entryP (class_ : ByteArray) (params : List Ty) (st : Bool) (loc : Int) : Fr :=
 (true,(((if st then [] else [((4,class_) : Ty)]) ++ params) ++ List.replicate loc.toNat topT).take loc.toNat,[])
def caughtP (f : Fr) (c : ByteArray) : Fr := (f.1,f.2.1,[(4,c)])
def opsC : List Int := [1,2,3,42,7,6,8,13,14,15,18,21,43,19]
def takeC : List Nat := [0,0,0,0,1,1,2,1,2,2,1,1,1,0]
def leaveC : List Nat := [1,1,1,1,2,0,1,1,1,1,1,1,0,0]
def cntB (k s : Nat) : Bool :=
 let r := stepP [] (5,es) (true,[],List.replicate s intT) (opsC.getD k 0) 0
 if s < takeC.getD k 0 || 100 < s - takeC.getD k 0 + leaveC.getD k 0 then r.2 == 30 && r.1.1 == false && r.1.2.2.length == 0
 else r.2 == 0 && r.1.2.2.length == s - takeC.getD k 0 + leaveC.getD k 0
theorem cnt_tab : ∀ k : Fin 14,∀ s : Fin 101,cntB k s = true := by decide +kernel
theorem ok_cnt : ∀ k : Fin 14,opsC.getD k 0 ∈ ([1,2,3,6,7,8,13,14,15,18,19,21,39,40,42,43] : List Int) := by decide
end Go.Proofs.YtpkjlgdbaajpoaaGreat.R
namespace Go.Proofs.YtpkjlgdbaajpoaaGreat.R
open Go.RowKit Go.Proofs.YtpkjlgdbaajpoaaGreat.D Go.Proofs.YtpkjlgdbaajpoaaGreat.O Go.Proofs.YtpkjlgdbaajpoaaGreat.A
theorem tl_ne {n : ByteArray} (a : Array UInt8) (h : n ≠ ⟨a⟩) : (n.toList == a.toList) = false := by
 rw [beq_eq_false_iff_ne]
 intro e
 refine h (Go.Proofs.YtpkjlgdbaajpoaaGreat.txt_inj ?_)
 rw [e,Lib.toList_data]
theorem tl_eq {n : ByteArray} (a : Array UInt8) (h : n = ⟨a⟩) : (n.toList == a.toList) = true := by
 rw [h,Lib.toList_data]; simp
theorem below_alR (w : World) (o : Obj) : Below w.heap.size w (w.alloc o) := (Below.refl _ _).alloc (Nat.le_refl _) _
def NoN (n : ByteArray) : Prop := (n.toList == [79,98,106,101,99,116]) = false /\ (n.toList == [70,97,117,108,116]) = false /\ (n.toList == [78,117,108,108,70,97,117,108,116]) = false /\ (n.toList == [66,111,117,110,100,115,70,97,117,108,116]) = false /\ (n.toList == [67,97,115,116,70,97,117,108,116]) = false /\ (n.toList == [90,101,114,111,70,97,117,108,116]) = false /\ (n.toList == [83,105,122,101,70,97,117,108,116]) = false
theorem no_blt {n : ByteArray} (h : bltS n = none) : NoN n := by
 have h1 : n ≠ objT := by rintro rfl; cases h
 have h2 : n ≠ fltT := by rintro rfl; cases h
 have h3 : n ∉ fivT := by
  intro h3
  unfold bltS at h
  rw [if_neg h1,if_neg h2,if_pos (S.hasB_in h3)] at h
  cases h
 unfold fivT at h3
 simp only [List.mem_cons,List.not_mem_nil,or_false,not_or] at h3
 obtain ⟨g0,g1,g2,g3,g4⟩ := h3
 exact ⟨tl_ne #[79,98,106,101,99,116] h1,tl_ne #[70,97,117,108,116] h2,tl_ne #[78,117,108,108,70,97,117,108,116] g0,tl_ne #[66,111,117,110,100,115,70,97,117,108,116] g1,tl_ne #[67,97,115,116,70,97,117,108,116] g2,tl_ne #[90,101,114,111,70,97,117,108,116] g3,tl_ne #[83,105,122,101,70,97,117,108,116] g4⟩
theorem blt_no (n : ByteArray) (w : World) (hb : bltS n = none) : Calls Tryz.prog 85 #[.string n] w fun e w' => e = .returned (.tuple #[.agg #[.string ⟨#[]⟩,.string ⟨#[]⟩,.slice none 0 0,.int .i64 0,.slice none 0 0,.slice none 0 0],.bool false]) /\ Below w.heap.size w w' := by
 obtain ⟨f0,f1,f2,f3,f4,f5,f6⟩ := no_blt hb
 clear hb
 go_enter Tryz.func85,Tryz.ntmps85
 go_wp2
 refine bodyPost_ret (v := .tuple #[.agg #[.string ⟨#[]⟩,.string ⟨#[]⟩,.slice none 0 0,.int .i64 0,.slice none 0 0,.slice none 0 0],.bool false]) (by simp [*,results,Tryz.results85,go_sem]) rfl ⟨rfl,?_⟩
 exact below_alR _ _
theorem blt_obj (w : World) : Calls Tryz.prog 85 #[.string ⟨#[79,98,106,101,99,116]⟩] w fun e w' => e = .returned (.tuple #[.agg #[.string ⟨#[79,98,106,101,99,116]⟩,.string ⟨#[]⟩,.slice none 0 0,.int .i64 1,.slice none 0 0,.slice none 0 0],.bool true]) /\ Below w.heap.size w w' := by
 go_enter Tryz.func85,Tryz.ntmps85
 go_wp2
 refine bodyPost_ret (v := .tuple #[.agg #[.string ⟨#[79,98,106,101,99,116]⟩,.string ⟨#[]⟩,.slice none 0 0,.int .i64 1,.slice none 0 0,.slice none 0 0],.bool true]) (by simp [*,results,Tryz.results85,go_sem]) rfl ⟨rfl,?_⟩
 exact below_alR _ _
theorem blt_flt (w : World) : Calls Tryz.prog 85 #[.string ⟨#[70,97,117,108,116]⟩] w fun e w' => e = .returned (.tuple #[.agg #[.string ⟨#[70,97,117,108,116]⟩,.string ⟨#[79,98,106,101,99,116]⟩,.slice none 0 0,.int .i64 1,.slice none 0 0,.slice none 0 0],.bool true]) /\ Below w.heap.size w w' := by
 go_enter Tryz.func85,Tryz.ntmps85
 go_wp2
 refine bodyPost_ret (v := .tuple #[.agg #[.string ⟨#[70,97,117,108,116]⟩,.string ⟨#[79,98,106,101,99,116]⟩,.slice none 0 0,.int .i64 1,.slice none 0 0,.slice none 0 0],.bool true]) (by simp [*,results,Tryz.results85,go_sem]) rfl ⟨rfl,?_⟩
 exact below_alR _ _
theorem blt_f0 (w : World) : Calls Tryz.prog 85 #[.string ⟨#[78,117,108,108,70,97,117,108,116]⟩] w fun e w' => e = .returned (.tuple #[.agg #[.string ⟨#[78,117,108,108,70,97,117,108,116]⟩,.string ⟨#[70,97,117,108,116]⟩,.slice none 0 0,.int .i64 1,.slice none 0 0,.slice none 0 0],.bool true]) /\ Below w.heap.size w w' := by
 go_enter Tryz.func85,Tryz.ntmps85
 go_wp2
 refine bodyPost_ret (v := .tuple #[.agg #[.string ⟨#[78,117,108,108,70,97,117,108,116]⟩,.string ⟨#[70,97,117,108,116]⟩,.slice none 0 0,.int .i64 1,.slice none 0 0,.slice none 0 0],.bool true]) (by simp [*,results,Tryz.results85,go_sem]) rfl ⟨rfl,?_⟩
 exact below_alR _ _
theorem blt_f1 (w : World) : Calls Tryz.prog 85 #[.string ⟨#[66,111,117,110,100,115,70,97,117,108,116]⟩] w fun e w' => e = .returned (.tuple #[.agg #[.string ⟨#[66,111,117,110,100,115,70,97,117,108,116]⟩,.string ⟨#[70,97,117,108,116]⟩,.slice none 0 0,.int .i64 1,.slice none 0 0,.slice none 0 0],.bool true]) /\ Below w.heap.size w w' := by
 go_enter Tryz.func85,Tryz.ntmps85
 go_wp2
 refine bodyPost_ret (v := .tuple #[.agg #[.string ⟨#[66,111,117,110,100,115,70,97,117,108,116]⟩,.string ⟨#[70,97,117,108,116]⟩,.slice none 0 0,.int .i64 1,.slice none 0 0,.slice none 0 0],.bool true]) (by simp [*,results,Tryz.results85,go_sem]) rfl ⟨rfl,?_⟩
 exact below_alR _ _
theorem blt_f2 (w : World) : Calls Tryz.prog 85 #[.string ⟨#[67,97,115,116,70,97,117,108,116]⟩] w fun e w' => e = .returned (.tuple #[.agg #[.string ⟨#[67,97,115,116,70,97,117,108,116]⟩,.string ⟨#[70,97,117,108,116]⟩,.slice none 0 0,.int .i64 1,.slice none 0 0,.slice none 0 0],.bool true]) /\ Below w.heap.size w w' := by
 go_enter Tryz.func85,Tryz.ntmps85
 go_wp2
 refine bodyPost_ret (v := .tuple #[.agg #[.string ⟨#[67,97,115,116,70,97,117,108,116]⟩,.string ⟨#[70,97,117,108,116]⟩,.slice none 0 0,.int .i64 1,.slice none 0 0,.slice none 0 0],.bool true]) (by simp [*,results,Tryz.results85,go_sem]) rfl ⟨rfl,?_⟩
 exact below_alR _ _
theorem blt_f3 (w : World) : Calls Tryz.prog 85 #[.string ⟨#[90,101,114,111,70,97,117,108,116]⟩] w fun e w' => e = .returned (.tuple #[.agg #[.string ⟨#[90,101,114,111,70,97,117,108,116]⟩,.string ⟨#[70,97,117,108,116]⟩,.slice none 0 0,.int .i64 1,.slice none 0 0,.slice none 0 0],.bool true]) /\ Below w.heap.size w w' := by
 go_enter Tryz.func85,Tryz.ntmps85
 go_wp2
 refine bodyPost_ret (v := .tuple #[.agg #[.string ⟨#[90,101,114,111,70,97,117,108,116]⟩,.string ⟨#[70,97,117,108,116]⟩,.slice none 0 0,.int .i64 1,.slice none 0 0,.slice none 0 0],.bool true]) (by simp [*,results,Tryz.results85,go_sem]) rfl ⟨rfl,?_⟩
 exact below_alR _ _
theorem blt_f4 (w : World) : Calls Tryz.prog 85 #[.string ⟨#[83,105,122,101,70,97,117,108,116]⟩] w fun e w' => e = .returned (.tuple #[.agg #[.string ⟨#[83,105,122,101,70,97,117,108,116]⟩,.string ⟨#[70,97,117,108,116]⟩,.slice none 0 0,.int .i64 1,.slice none 0 0,.slice none 0 0],.bool true]) /\ Below w.heap.size w w' := by
 go_enter Tryz.func85,Tryz.ntmps85
 go_wp2
 refine bodyPost_ret (v := .tuple #[.agg #[.string ⟨#[83,105,122,101,70,97,117,108,116]⟩,.string ⟨#[70,97,117,108,116]⟩,.slice none 0 0,.int .i64 1,.slice none 0 0,.slice none 0 0],.bool true]) (by simp [*,results,Tryz.results85,go_sem]) rfl ⟨rfl,?_⟩
 exact below_alR _ _
theorem blt_yes (n s : ByteArray) (w : World) (hb : bltS n = some s) : Calls Tryz.prog 85 #[.string n] w fun e w' => e = .returned (.tuple #[.agg #[.string n,.string s,.slice none 0 0,.int .i64 1,.slice none 0 0,.slice none 0 0],.bool true]) /\ Below w.heap.size w w' := by
 unfold bltS at hb
 by_cases h1 : n = objT
 ·rw [if_pos h1] at hb
  cases hb
  subst h1
  exact blt_obj w
 ·rw [if_neg h1] at hb
  by_cases h2 : n = fltT
  ·rw [if_pos h2] at hb
   cases hb
   subst h2
   exact blt_flt w
  ·rw [if_neg h2] at hb
   by_cases h3 : n ∈ fivT
   ·rw [if_pos (S.hasB_in h3)] at hb
    cases hb
    unfold fivT at h3
    simp only [List.mem_cons,List.not_mem_nil,or_false] at h3
    rcases h3 with rfl | rfl | rfl | rfl | rfl
    ·exact blt_f0 w
    ·exact blt_f1 w
    ·exact blt_f2 w
    ·exact blt_f3 w
    ·exact blt_f4 w
   ·rw [if_neg (by rw [S.hasB_out h3]; simp)] at hb
    cases hb
end Go.Proofs.YtpkjlgdbaajpoaaGreat.R
namespace Go.Proofs.YtpkjlgdbaajpoaaGreat.A
open Go.RowKit Go.Proofs.YtpkjlgdbaajpoaaGreat.D Go.Proofs.YtpkjlgdbaajpoaaGreat.O
def Keeps (ok : Nat -> Prop) (w w' : World) : Prop := ∀ b,ok b -> b < w.heap.size -> w'.heap[b]? = w.heap[b]?
theorem Keeps.of_below {ok : Nat -> Prop} {w w' : World} (h : Below w.heap.size w w') : Keeps ok w w' := fun b _ hb => h.block b hb
theorem Keeps.mono {ok ok' : Nat -> Prop} {w w' : World} (h : Keeps ok w w') (ho : ∀ b,ok' b -> ok b) : Keeps ok' w w' := fun b hb hl => h b (ho b hb) hl
theorem Keeps.of_kpt {ok : Nat -> Prop} {S : List Nat} {w w' : World} (h : Kpt S w w') (hS : ∀ b,ok b -> b ∉ S) : Keeps ok w w' := fun b hb hl => h.2 b hl (hS b hb)
theorem Keeps.of_grown {ok : Nat -> Prop} {w w' : World} {r : Option Nat} (h : w.grownBy w' r) (hr : ∀ b,ok b -> r ≠ some b) : Keeps ok w w' := fun b hb hl => h.block b hl (fun e => hr b hb e.symm)
theorem cell_keeps {ok : Nat -> Prop} {w w' : World} {b o : Nat} {u : Value} (h : w.cell? ⟨b,o,none⟩ = some u) (hk : Keeps ok w w') (hb : ok b) : w'.cell? ⟨b,o,none⟩ = some u := by
 have hlt := World.block_lt_of_cell? _ _ h
 rw [World.cell?_of_block (w := w) (a := ⟨b,o,none⟩) (hk b hb hlt)]
 exact h
abbrev Pv (α : Type) : Type := (Nat -> Prop) -> World -> List Value -> α -> Prop
def RdX {α : Type} (sz : Nat) (P : Pv α) (ok : Nat -> Prop) (w : World) (v : Value) (xs : List α) : Prop :=
 ∃ (p : Option Addr) (cap : Nat),v = .slice p xs.length cap /\ xs.length <= cap /\ (p = none -> cap = 0) /\
  (xs = [] ∨ ∃ b off,p = some ⟨b,off,none⟩ /\ ok b /\ b < w.heap.size /\ ∀ i x,xs[i]? = some x -> ∃ vs,P ok w vs x /\ ∀ j u,vs[j]? = some u -> w.cell? ⟨b,off + i * sz + j,none⟩ = some u)
theorem RdX.nil {α : Type} (sz : Nat) (P : Pv α) (ok : Nat -> Prop) (w : World) : RdX sz P ok w (.slice none 0 0) ([] : List α) := ⟨none,0,rfl,by simp,fun _ => rfl,.inl rfl⟩
theorem RdX.len {α : Type} {sz : Nat} {P : Pv α} {ok : Nat -> Prop} {w : World} {v : Value} {xs : List α} (h : RdX sz P ok w v xs) : ∃ p cap,v = .slice p xs.length cap /\ xs.length <= cap := by
 obtain ⟨p,cap,h,h1,_⟩ := h
 exact ⟨p,cap,h,h1⟩
def sP {α : Type} (c : α -> List Value) : Pv α := fun _ _ vs x => vs = c x
def strC (s : ByteArray) : List Value := [.string s]
def tyC (t : Ty) : List Value := [.int .i64 t.1,.string t.2]
def insC (x : Ins) : List Value := [.int .i64 x.1,.int .i32 x.2.1,.int .i64 x.2.2.1,.string x.2.2.2.1,.string x.2.2.2.2.1,.string x.2.2.2.2.2.1,.string x.2.2.2.2.2.2]
def fldC (f : Fld) : List Value := [.string f.1,.int .i64 f.2.1.1,.string f.2.1.2,.bool f.2.2]
def hndC (h : Hnd) : List Value := [.int .i64 h.1,.int .i64 h.2.1,.int .i64 h.2.2.1,.string h.2.2.2]
def mP : Pv Mth := fun ok w vs m => ∃ vp vc vh,vs = [.string m.name,vp,.int .i64 m.ret.1,.string m.ret.2,.bool m.st,.bool m.ab,.int .i64 m.locals,vc,vh] /\
 RdX 2 (sP tyC) ok w vp m.params /\ RdX 7 (sP insC) ok w vc m.code /\ RdX 4 (sP hndC) ok w vh m.hs
def cP : Pv Cls := fun ok w vs c => ∃ vi vf vm,vs = [.string c.name,.string c.super,vi,.int .i64 c.kind,vf,vm] /\
 RdX 1 (sP strC) ok w vi c.ifaces /\ RdX 4 (sP fldC) ok w vf c.fields /\ RdX 9 mP ok w vm c.methods
def MonoG {α : Type} (P : Pv α) : Prop := ∀ (ok ok' : Nat -> Prop) (w w' : World) (vs : List Value) (x : α),P ok w vs x -> (∀ b,ok b -> b < w.heap.size -> ok' b) -> Keeps ok w w' -> w.heap.size <= w'.heap.size -> P ok' w' vs x
theorem RdX.step {α : Type} {sz : Nat} {P : Pv α} (hP : MonoG P) {ok ok' : Nat -> Prop} {w w' : World} {v : Value} {xs : List α} (h : RdX sz P ok w v xs) (ho : ∀ b,ok b -> b < w.heap.size -> ok' b) (hk : Keeps ok w w') (hs : w.heap.size <= w'.heap.size) : RdX sz P ok' w' v xs := by
 obtain ⟨p,cap,rfl,h1,h2,h3⟩ := h
 refine ⟨p,cap,rfl,h1,h2,?_⟩
 rcases h3 with h3 | ⟨b,off,rfl,hb,hlt,h3⟩
 ·exact .inl h3
 ·refine .inr ⟨b,off,rfl,ho b hb hlt,by omega,fun i x hx => ?_⟩
  obtain ⟨vs,hv,hc⟩ := h3 i x hx
  exact ⟨vs,hP _ _ _ _ _ _ hv ho hk hs,fun j u hu => cell_keeps (hc j u hu) hk hb⟩
theorem sP.grow {α : Type} (c : α -> List Value) : MonoG (sP c) := fun _ _ _ _ _ _ h _ _ _ => h
theorem mP.grow : MonoG mP := by
 intro ok ok' w w' vs m h ho hk hs
 obtain ⟨vp,vc,vh,e,h1,h2,h3⟩ := h
 exact ⟨vp,vc,vh,e,h1.step (sP.grow _) ho hk hs,h2.step (sP.grow _) ho hk hs,h3.step (sP.grow _) ho hk hs⟩
theorem cP.grow : MonoG cP := by
 intro ok ok' w w' vs c h ho hk hs
 obtain ⟨vi,vf,vm,e,h1,h2,h3⟩ := h
 exact ⟨vi,vf,vm,e,h1.step (sP.grow _) ho hk hs,h2.step (sP.grow _) ho hk hs,h3.step mP.grow ho hk hs⟩
abbrev anyB : Nat -> Prop := fun _ => True
theorem RdX.any {α : Type} {sz : Nat} {P : Pv α} (hP : MonoG P) {ok : Nat -> Prop} {w w' : World} {v : Value} {xs : List α} (h : RdX sz P ok w v xs) (hb : Below w.heap.size w w') : RdX sz P ok w' v xs := h.step hP (fun _ h _ => h) (.of_below hb) hb.size
theorem RdX.at {α : Type} {sz : Nat} {P : Pv α} {ok : Nat -> Prop} {w : World} {p : Option Addr} {n cap : Nat} {xs : List α} (h : RdX sz P ok w (.slice p n cap) xs) (hn : xs ≠ []) :
  ∃ b off,p = some ⟨b,off,none⟩ /\ n = xs.length /\ n <= cap /\ ok b /\ b < w.heap.size /\ ∀ i x,xs[i]? = some x -> ∃ vs,P ok w vs x /\ ∀ j u,vs[j]? = some u -> w.cell? ⟨b,off + i * sz + j,none⟩ = some u := by
 obtain ⟨p',cap',e,h1,h2,h3⟩ := h
 simp only [Value.slice.injEq] at e
 obtain ⟨rfl,rfl,rfl⟩ := e
 rcases h3 with h3 | ⟨b,off,rfl,hb,hlt,h3⟩
 ·exact absurd h3 hn
 ·exact ⟨b,off,rfl,rfl,h1,hb,hlt,h3⟩
def CellsAt (w : World) (b o : Nat) (vs : List Value) : Prop := ∀ j u,vs[j]? = some u -> w.cell? ⟨b,o + j,none⟩ = some u
theorem CellsAt.below {w w' : World} {b o : Nat} {vs : List Value} (h : CellsAt w b o vs) {B : Nat} (hb : Below B w w') (hlt : b < B) : CellsAt w' b o vs := fun j u hu =>
 (hb.cell (p := ⟨b,o + j,none⟩) hlt).trans (h j u hu)
theorem CellsAt.two {w : World} {b o : Nat} {v0 v1 : Value} (h : CellsAt w b o [v0,v1]) : w.cell? ⟨b,o,none⟩ = some v0 /\ w.cell? ⟨b,o + 1,none⟩ = some v1 := ⟨h 0 _ rfl,h 1 _ rfl⟩
theorem CellsAt.four {w : World} {b o : Nat} {v0 v1 v2 v3 : Value} (h : CellsAt w b o [v0,v1,v2,v3]) : w.cell? ⟨b,o,none⟩ = some v0 /\ w.cell? ⟨b,o + 1,none⟩ = some v1 /\ w.cell? ⟨b,o + 2,none⟩ = some v2 /\ w.cell? ⟨b,o + 3,none⟩ = some v3 :=
 ⟨h 0 _ rfl,h 1 _ rfl,h 2 _ rfl,h 3 _ rfl⟩
theorem CellsAt.six {w : World} {b o : Nat} {v0 v1 v2 v3 v4 v5 : Value} (h : CellsAt w b o [v0,v1,v2,v3,v4,v5]) : w.cell? ⟨b,o,none⟩ = some v0 /\ w.cell? ⟨b,o + 1,none⟩ = some v1 /\ w.cell? ⟨b,o + 2,none⟩ = some v2 /\ w.cell? ⟨b,o + 3,none⟩ = some v3 /\ w.cell? ⟨b,o + 4,none⟩ = some v4 /\ w.cell? ⟨b,o + 5,none⟩ = some v5 :=
 ⟨h 0 _ rfl,h 1 _ rfl,h 2 _ rfl,h 3 _ rfl,h 4 _ rfl,h 5 _ rfl⟩
theorem CellsAt.seven {w : World} {b o : Nat} {v0 v1 v2 v3 v4 v5 v6 : Value} (h : CellsAt w b o [v0,v1,v2,v3,v4,v5,v6]) : w.cell? ⟨b,o,none⟩ = some v0 /\ w.cell? ⟨b,o + 1,none⟩ = some v1 /\ w.cell? ⟨b,o + 2,none⟩ = some v2 /\ w.cell? ⟨b,o + 3,none⟩ = some v3 /\ w.cell? ⟨b,o + 4,none⟩ = some v4 /\ w.cell? ⟨b,o + 5,none⟩ = some v5 /\ w.cell? ⟨b,o + 6,none⟩ = some v6 :=
 ⟨h 0 _ rfl,h 1 _ rfl,h 2 _ rfl,h 3 _ rfl,h 4 _ rfl,h 5 _ rfl,h 6 _ rfl⟩
theorem RdX.place {α : Type} {sz : Nat} {P : Pv α} {ok : Nat -> Prop} {w : World} {p : Option Addr} {n cap : Nat} {xs : List α} (h : RdX sz P ok w (.slice p n cap) xs) (hn : xs ≠ []) :
  ∃ b off,p = some ⟨b,off,none⟩ /\ n = xs.length /\ n <= cap /\ ok b /\ b < w.heap.size /\ ∀ i x,xs[i]? = some x -> ∃ vs,P ok w vs x /\ CellsAt w b (off + i * sz) vs := h.at hn
end Go.Proofs.YtpkjlgdbaajpoaaGreat.A
namespace Go.Proofs.YtpkjlgdbaajpoaaGreat.A
open Go.RowKit Go.Proofs.YtpkjlgdbaajpoaaGreat.D Go.Proofs.YtpkjlgdbaajpoaaGreat.O
theorem sP_at {α : Type} {c : α -> List Value} {ok : Nat -> Prop} {w : World} {b o : Nat} {x : α} (h : ∃ vs,sP c ok w vs x /\ CellsAt w b o vs) : CellsAt w b o (c x) := by
 obtain ⟨vs,rfl,h⟩ := h
 exact h
end Go.Proofs.YtpkjlgdbaajpoaaGreat.A
namespace Go.Proofs.YtpkjlgdbaajpoaaGreat.A
open Go.RowKit Go.Proofs.YtpkjlgdbaajpoaaGreat.D Go.Proofs.YtpkjlgdbaajpoaaGreat.O
def szI (x : Ins) : Prop := x.2.2.2.1.size <= 100000 /\ x.2.2.2.2.1.size <= 100000 /\ x.2.2.2.2.2.1.size <= 100000 /\ x.2.2.2.2.2.2.size <= 100000
def szM (m : Mth) : Prop := m.name.size <= 100000 /\ (∀ t ∈ m.params,t.2.size <= 100000) /\ m.ret.2.size <= 100000 /\ (∀ x ∈ m.code,szI x) /\ ∀ h ∈ m.hs,h.2.2.2.size <= 100000
theorem z2 {w : World} {b : Nat} {v0 v1 : Value} (h : CellsAt w b 0 [v0,v1]) : w.cell? ⟨b,0,none⟩ = some v0 /\ w.cell? ⟨b,1,none⟩ = some v1 := h.two
theorem z4 {w : World} {b : Nat} {v0 v1 v2 v3 : Value} (h : CellsAt w b 0 [v0,v1,v2,v3]) : w.cell? ⟨b,0,none⟩ = some v0 /\ w.cell? ⟨b,1,none⟩ = some v1 /\ w.cell? ⟨b,2,none⟩ = some v2 /\ w.cell? ⟨b,3,none⟩ = some v3 := h.four
theorem z6 {w : World} {b : Nat} {v0 v1 v2 v3 v4 v5 : Value} (h : CellsAt w b 0 [v0,v1,v2,v3,v4,v5]) : w.cell? ⟨b,0,none⟩ = some v0 /\ w.cell? ⟨b,1,none⟩ = some v1 /\ w.cell? ⟨b,2,none⟩ = some v2 /\ w.cell? ⟨b,3,none⟩ = some v3 /\ w.cell? ⟨b,4,none⟩ = some v4 /\ w.cell? ⟨b,5,none⟩ = some v5 := h.six
end Go.Proofs.YtpkjlgdbaajpoaaGreat.A
namespace Go.Proofs.YtpkjlgdbaajpoaaGreat.A
open Go.RowKit Go.Proofs.YtpkjlgdbaajpoaaGreat.D Go.Proofs.YtpkjlgdbaajpoaaGreat.O
def Fr (ok : Nat -> Prop) (w w' : World) : Prop := Below 0 w w' /\ Keeps ok w w'
theorem Fr.size {ok : Nat -> Prop} {w w' : World} (h : Fr ok w w') : w.heap.size <= w'.heap.size := h.1.size
theorem Fr.refl (ok : Nat -> Prop) (w : World) : Fr ok w w := ⟨Below.refl _ _,fun _ _ _ => rfl⟩
theorem Fr.trans {ok : Nat -> Prop} {a b c : World} (h : Fr ok a b) (k : Fr ok b c) : Fr ok a c :=
 ⟨h.1.trans k.1,fun x hx hl => (k.2 x hx (Nat.lt_of_lt_of_le hl h.size)).trans (h.2 x hx hl)⟩
theorem Fr.drew (ok : Nat -> Prop) (w : World) : Fr ok w w.drew := ⟨(Below.refl _ _).drew,fun _ _ _ => rfl⟩
theorem Fr.mono {ok ok' : Nat -> Prop} {a b : World} (h : Fr ok a b) (ho : ∀ x,ok' x -> x < a.heap.size -> ok x) : Fr ok' a b := ⟨h.1,fun x hx hl => h.2 x (ho x hx hl) hl⟩
theorem Fr.of_below {ok : Nat -> Prop} {w w' : World} (h : Below w.heap.size w w') : Fr ok w w' := ⟨h.mono (Nat.zero_le _),.of_below h⟩
theorem Fr.of_grown {ok : Nat -> Prop} {w w' : World} {r : Option Nat} (h : w.grownBy w' r) (hr : ∀ b,ok b -> r ≠ some b) : Fr ok w w' :=
 ⟨⟨h.os,h.tape,h.output,h.size,fun k hk => absurd hk (Nat.not_lt_zero k)⟩,.of_grown h hr⟩
theorem Fr.set {ok : Nat -> Prop} (w : World) (b j : Nat) (u : Value) (hb : ¬ ok b) : Fr ok w (w.setCell ⟨b,j,none⟩ u) := .of_grown (grown_set w b j u) (fun x hx e => by cases e; exact hb hx)
theorem Fr.below {ok : Nat -> Prop} {B : Nat} {w w' : World} (h : Fr ok w w') (hok : ∀ b,b < B -> ok b) (hB : B <= w.heap.size) : Below B w w' :=
 ⟨h.1.os,h.1.tape,h.1.output,h.1.size,fun k hk => h.2 k (hok k hk) (Nat.lt_of_lt_of_le hk hB)⟩
theorem Fr.cells {ok : Nat -> Prop} {w w' : World} {b o : Nat} {vs : List Value} (h : CellsAt w b o vs) (hf : Fr ok w w') (hb : ok b) : CellsAt w' b o vs := fun j u hu => cell_keeps (h j u hu) hf.2 hb
end Go.Proofs.YtpkjlgdbaajpoaaGreat.A
namespace Go.Proofs.YtpkjlgdbaajpoaaGreat.A
open Go.RowKit Go.Proofs.YtpkjlgdbaajpoaaGreat.D Go.Proofs.YtpkjlgdbaajpoaaGreat.O
def OwnX {α : Type} (sz : Nat) (T : TypeId) (P : Pv α) (w : World) (B : Nat) (v : Value) (xs : List α) : Prop :=
 ∃ cs : List Value,w.ownsRow B T sz v xs.length cs /\ ∀ i x,xs[i]? = some x -> P (fun b => B <= b /\ v.ownBlock ≠ some b) w ((cs.drop (i * sz)).take sz) x
theorem OwnX.nil {α : Type} (sz : Nat) (T : TypeId) (P : Pv α) (w : World) (B : Nat) : OwnX sz T P w B (.slice none 0 0) ([] : List α) := ⟨[],⟨by simp,.inl ⟨rfl,rfl⟩⟩,fun i x h => by simp at h⟩
theorem OwnX.lt {α : Type} {sz : Nat} {T : TypeId} {P : Pv α} {w : World} {B : Nat} {v : Value} {xs : List α} (h : OwnX sz T P w B v xs) : ∀ k,v.ownBlock = some k -> B <= k /\ k < w.heap.size := by
 obtain ⟨cs,h1,_⟩ := h
 exact World.ownsRow.lt h1
theorem OwnX.rd {α : Type} {sz : Nat} {T : TypeId} {P : Pv α} (hP : MonoG P) {w : World} {B : Nat} {v : Value} {xs : List α} (h : OwnX sz T P w B v xs) : RdX sz P (fun b => B <= b) w v xs := by
 obtain ⟨cs,h1,h2⟩ := h
 have hh := h1
 rcases h1.2 with ⟨rfl,hn⟩ | ⟨g,cap,cur,rfl,hb,hg,hle,_⟩
 ·have : xs = [] := List.eq_nil_of_length_eq_zero hn
  subst this
  exact RdX.nil _ _ _ _
 ·refine ⟨_,cap,rfl,hle,(fun h => by cases h),.inr ⟨g,0,rfl,hb,(Array.getElem?_eq_some_iff.1 hg).1,fun i x hx => ⟨_,hP _ _ _ _ _ _ (h2 i x hx) (fun b hb _ => hb.1) (fun _ _ _ => rfl) (Nat.le_refl _),fun j u hu => ?_⟩⟩⟩
  have hj : j < sz := by
   have := (List.getElem?_eq_some_iff.1 hu).1
   rw [List.length_take] at this
   omega
  rw [List.getElem?_take_of_lt hj,List.getElem?_drop] at hu
  have := World.ownsRow.cells hh (g := g) rfl (i * sz + j) u hu
  rw [D.add0] at this
  rw [<- Nat.add_assoc] at this
  exact this
theorem OwnX.mono {α : Type} {sz : Nat} {T : TypeId} {P : Pv α} (hP : MonoG P) {w : World} {B B' : Nat} {v : Value} {xs : List α} (h : OwnX sz T P w B v xs) (hB : B' <= B) : OwnX sz T P w B' v xs := by
 obtain ⟨cs,h1,h2⟩ := h
 refine ⟨cs,⟨h1.1,?_⟩,fun i x hx => hP _ _ _ _ _ _ (h2 i x hx) (fun b hb _ => ⟨Nat.le_trans hB hb.1,hb.2⟩) (fun _ _ _ => rfl) (Nat.le_refl _)⟩
 rcases h1.2 with hn | ⟨g,cap,cur,e,hb,r⟩
 ·exact .inl hn
 ·exact .inr ⟨g,cap,cur,e,Nat.le_trans hB hb,r⟩
def Shape {α : Type} (P : Pv α) (sz : Nat) : Prop := ∀ (ok : Nat -> Prop) (w : World) (vs : List Value) (x : α),P ok w vs x -> vs.length = sz /\ ∀ u ∈ vs,u.oneCell' = true
theorem shape_str : Shape (sP strC) 1 := fun _ _ vs x h => by
 have : vs = strC x := h
 subst this
 exact ⟨rfl,by simp [strC,Value.oneCell']⟩
theorem shape_ins : Shape (sP insC) 7 := fun _ _ vs x h => by
 have : vs = insC x := h
 subst this
 exact ⟨rfl,by simp [insC,Value.oneCell']⟩
theorem shape_hnd : Shape (sP hndC) 4 := fun _ _ vs x h => by
 have : vs = hndC x := h
 subst this
 exact ⟨rfl,by simp [hndC,Value.oneCell']⟩
theorem shape_fld : Shape (sP fldC) 4 := fun _ _ vs x h => by
 have : vs = fldC x := h
 subst this
 exact ⟨rfl,by simp [fldC,Value.oneCell']⟩
theorem shape_mth : Shape mP 9 := fun _ _ vs x h => by
 obtain ⟨vp,vc,vh,rfl,h1,h2,h3⟩ := h
 obtain ⟨pp,cp,rfl,-⟩ := h1.len
 obtain ⟨pc,cc,rfl,-⟩ := h2.len
 obtain ⟨ph,ch,rfl,-⟩ := h3.len
 exact ⟨rfl,by simp [Value.oneCell']⟩
theorem shape_cls : Shape cP 6 := fun _ _ vs x h => by
 obtain ⟨vp,vc,vh,rfl,h1,h2,h3⟩ := h
 obtain ⟨pp,cp,rfl,-⟩ := h1.len
 obtain ⟨pc,cc,rfl,-⟩ := h2.len
 obtain ⟨ph,ch,rfl,-⟩ := h3.len
 exact ⟨rfl,by simp [Value.oneCell']⟩
def Inf (T TS : TypeId) (sz bytes : Nat) (z : Value) : Prop := (Tryz.prog.info? T).map (fun i => (i.zero,i.size,i.bytes)) = some (some z,sz,bytes) /\ Tryz.prog.underlying TS = some (.slice T) /\ z.cells.size = sz /\ 0 < sz /\ bytes <= 1000
theorem adadd (x : Addr) (a b : Nat) : (x.add a).add b = x.add (a + b) := by
 obtain ⟨g,o,s⟩ := x
 unfold Addr.add
 by_cases ha : a = 0
 ·subst ha; simp
 ·by_cases hb : b = 0
  ·subst hb; simp
  ·rw [if_neg ha,if_neg hb,if_neg (by omega)]
   simp [Nat.add_assoc]
theorem run_appX {α : Type} {sz bytes : Nat} {T TS : TypeId} {z : Value} (hI : Inf T TS sz bytes z) {P : Pv α} (hP : MonoG P) (hS : Shape P sz) (w : World) (B : Nat) (v : Value) (xs ys : List α) (hown : OwnX sz T P w B v xs) (ad : Addr) (c : Nat)
  (hsrc : ∀ (i : Nat) y,ys[i]? = some y -> ∃ vs,P (fun b => B <= b /\ v.ownBlock ≠ some b) w vs y /\ ∀ j u,vs[j]? = some u -> w.cell? (ad.add (i * sz + j)) = some u)
  (hb : xs.length + ys.length <= 1000000) (hbase : B <= w.heap.size) (ty : TypeId) :
  ∃ v' w',(Builtin.append_ #[TS,TS] ty #[v,.slice (some ad) ys.length c]).run Tryz.prog w = .ok v' w' /\ OwnX sz T P w' B v' (xs ++ ys) /\ w.grownBy w' v.ownBlock /\ (v'.ownBlock = v.ownBlock ∨ v'.ownBlock = some w.heap.size) := by
 obtain ⟨hi0,hund,hzs,hsz,hby⟩ := hI
 obtain ⟨i0,hi,hz0,hz1,hz2⟩ := info_parts hi0
 obtain ⟨cs,h1,h2⟩ := hown
 have hex : ∃ news : List Value,news.length = ys.length * sz /\ (∀ j u,news[j]? = some u -> w.cell? (ad.add j) = some u) /\ (∀ u ∈ news,u.oneCell' = true) /\ ∀ (i : Nat) y,ys[i]? = some y -> P (fun b => B <= b /\ v.ownBlock ≠ some b) w ((news.drop (i * sz)).take sz) y := by
  clear hb
  revert ad
  induction ys with
  | nil => exact fun ad _ => ⟨[],by simp,by simp,by simp,by simp⟩
  | cons y ys ih =>
   intro ad hsrc
   obtain ⟨vs,hv,hc⟩ := hsrc 0 y rfl
   obtain ⟨hl,ho⟩ := hS _ _ _ _ hv
   obtain ⟨news,n1,n2,n3,n4⟩ := ih (ad.add sz) (fun i x hx => by
    obtain ⟨vs,hv,hc⟩ := hsrc (i + 1) x (by simpa using hx)
    refine ⟨vs,hv,fun j u hu => ?_⟩
    have := hc j u hu
    rw [Nat.succ_mul,show i * sz + sz + j = sz + (i * sz + j) by omega] at this
    rw [adadd]
    exact this)
   refine ⟨vs ++ news,by rw [List.length_append,n1,hl,List.length_cons,Nat.succ_mul,Nat.add_comm],fun j u hu => ?_,fun u hu => ?_,fun i x hx => ?_⟩
   ·by_cases hj : j < vs.length
    ·rw [List.getElem?_append_left hj] at hu
     have := hc j u hu
     rwa [Nat.zero_mul,Nat.zero_add] at this
    ·rw [List.getElem?_append_right (by omega)] at hu
     have := n2 _ u hu
     rw [adadd,show sz + (j - vs.length) = j by omega] at this
     exact this
   ·rcases List.mem_append.1 hu with h | h
    ·exact ho u h
    ·exact n3 u h
   ·cases i with
    | zero =>
     simp only [List.getElem?_cons_zero,Option.some.injEq] at hx
     subst hx
     rw [Nat.zero_mul,List.drop_zero,List.take_append_of_le_length (by omega),List.take_of_length_le (by omega)]
     exact hv
    | succ i =>
     have := n4 i x (by simpa using hx)
     rw [Nat.succ_mul,Nat.add_comm,<- List.drop_drop,<- hl,List.drop_left,hl]
     exact this
 obtain ⟨news,n1,n2,n3,n4⟩ := hex
 have hbb : (xs.length + ys.length) * bytes <= 140737488355328 := Nat.le_trans (Nat.mul_le_mul hb hby) (by decide)
 obtain ⟨v',w',hrun,g1,g2,_,g4⟩ := run_append_own_at (P := Tryz.prog) w B TS ty T i0 z sz bytes hund hi hz0 hz1 hz2 hzs hsz v xs.length cs h1 ad ys.length c news n1 n2 n3 (by unfold maxLen; omega) hbb hbase
 have hok' : ∀ b,(B <= b /\ v.ownBlock ≠ some b) -> b < w.heap.size -> B <= b /\ v'.ownBlock ≠ some b := fun b hb hlt => ⟨hb.1,by
  rcases g4 with e | e
  ·rw [e]; exact hb.2
  ·rw [e]; simp only [ne_eq,Option.some.injEq]; omega⟩
 have hkeep : Keeps (fun b => B <= b /\ v.ownBlock ≠ some b) w w' := .of_grown g2 (fun b hb => hb.2)
 refine ⟨v',w',hrun,⟨cs ++ news,by rw [List.length_append]; exact g1,fun i x hx => ?_⟩,g2,g4⟩
 have hcl : cs.length = xs.length * sz := h1.1
 by_cases hlt : i < xs.length
 ·rw [List.getElem?_append_left hlt] at hx
  have hle : i * sz + sz <= xs.length * sz := by rw [<- Nat.succ_mul]; exact Nat.mul_le_mul_right _ hlt
  rw [List.drop_append_of_le_length (by omega),List.take_append_of_le_length (by rw [List.length_drop]; omega)]
  exact hP _ _ _ _ _ _ (h2 i x hx) (fun b hb hl => hok' b hb hl) hkeep g2.size
 ·rw [List.getElem?_append_right (by omega)] at hx
  obtain ⟨k,rfl⟩ : ∃ k,i = xs.length + k := ⟨i - xs.length,by omega⟩
  rw [Nat.add_sub_cancel_left] at hx
  rw [Nat.add_mul,<- hcl,<- List.drop_drop,List.drop_left]
  exact hP _ _ _ _ _ _ (n4 k x hx) (fun b hb hl => hok' b hb hl) hkeep g2.size
end Go.Proofs.YtpkjlgdbaajpoaaGreat.A
namespace Go.Proofs.YtpkjlgdbaajpoaaGreat.A
open Go.RowKit Go.Proofs.YtpkjlgdbaajpoaaGreat.D Go.Proofs.YtpkjlgdbaajpoaaGreat.O
structure Cx where
 B : Nat
 rb : Nat
 sb : Nat
 pb : Nat
 mb : Nat
 sl : Value
 L : List ByteArray
 bs : List UInt8
 top : Nat
def Fs (C : Cx) (w w' : World) : Prop := Kpt [C.rb,C.sb] w w'
theorem Fs.refl (C : Cx) (w : World) : Fs C w w := Kpt.refl _ _
theorem Fs.trans {C : Cx} {a b c : World} (h : Fs C a b) (k : Fs C b c) : Fs C a c := Kpt.trans h k (fun _ hx => .inl hx)
theorem Fs.of_below {C : Cx} {a b : World} (h : Below a.heap.size a b) : Fs C a b := (Kpt.of_below h : Kpt [C.rb,C.sb] a b)
theorem Fs.size {C : Cx} {a b : World} (h : Fs C a b) : a.heap.size <= b.heap.size := Kpt.size h
theorem Fs.drew (C : Cx) (w : World) : Fs C w w.drew := .of_below (Below.refl _ _).drew
end Go.Proofs.YtpkjlgdbaajpoaaGreat.A
namespace Go.Proofs.YtpkjlgdbaajpoaaGreat.A
open Go.RowKit Go.Proofs.YtpkjlgdbaajpoaaGreat.D Go.Proofs.YtpkjlgdbaajpoaaGreat.O
def gF (f : Fld) : Prop := f.1.size <= 100000 /\ f.2.1.2.size <= 100000
def gI (x : Ins) : Prop := szI x /\ okI x
def gM (m : Mth) : Prop := szM m /\ wfM m
theorem inf_str : Inf 9 71 1 16 (.string ⟨#[]⟩) := ⟨by kernel_rfl,Tryz.underlying71,rfl,by decide,by decide⟩
theorem inf_fld : Inf 108 72 4 48 (.agg #[.string ⟨#[]⟩,.int .i64 0,.string ⟨#[]⟩,.bool false]) := ⟨by kernel_rfl,Tryz.underlying72,rfl,by decide,by decide⟩
theorem inf_ins : Inf 58 27 7 88 (.agg #[.int .i64 0,.int .i32 0,.int .i64 0,.string ⟨#[]⟩,.string ⟨#[]⟩,.string ⟨#[]⟩,.string ⟨#[]⟩]) := ⟨by kernel_rfl,Tryz.underlying27,rfl,by decide,by decide⟩
theorem inf_hnd : Inf 66 28 4 40 (.agg #[.int .i64 0,.int .i64 0,.int .i64 0,.string ⟨#[]⟩]) := ⟨by kernel_rfl,Tryz.underlying28,rfl,by decide,by decide⟩
theorem inf_mth : Inf 30 70 9 128 (.agg #[.string ⟨#[]⟩,.slice none 0 0,.int .i64 0,.string ⟨#[]⟩,.bool false,.bool false,.int .i64 0,.slice none 0 0,.slice none 0 0]) := ⟨by kernel_rfl,Tryz.underlying70,rfl,by decide,by decide⟩
theorem inf_cls : Inf 74 33 6 112 (.agg #[.string ⟨#[]⟩,.string ⟨#[]⟩,.slice none 0 0,.int .i64 0,.slice none 0 0,.slice none 0 0]) := ⟨by kernel_rfl,Tryz.underlying33,rfl,by decide,by decide⟩
end Go.Proofs.YtpkjlgdbaajpoaaGreat.A
