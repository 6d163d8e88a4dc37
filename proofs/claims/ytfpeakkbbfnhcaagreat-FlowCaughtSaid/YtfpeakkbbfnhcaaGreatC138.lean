/- Texts that the proof is made of, joined. No condition. -/
import Derived.Test.YtfpeakkbbfnhcaaGreatC130
import Derived.Deep.RegionHeld
import Derived.Test.YtfpeakkbbfnhcaaGreatC137
set_option linter.unusedVariables false
set_option linter.unusedSimpArgs false
set_option maxRecDepth 100000
set_option maxHeartbeats 16000000
namespace Go.Proofs.YtfpeakkbbfnhcaaGreat.A
open Go Go.RowKit
abbrev Tk : Type := Value × Nat × Nat
def zT : Tk := (undef,0,0)
def restr (C : List Nat) (g : Nat -> Tk) (k : Nat) : Tk := match C.contains k with | true => g k | false => zT
def updT (g : Nat -> Tk) (i : Nat) (x : Tk) (k : Nat) : Tk := if k = i then x else g k
def fillT : List Nat -> Nat -> (Nat -> Tk) -> Array Value -> Array Value
 | [],_,_,t => t
 | d :: ds,i,g,t => fillT ds (i + 1) g (t.setIfInBounds d (g i).1)
def evL (O : List (Nat × Value)) (L : List (Nat × Nat)) (g : Nat -> Tk) : Operand -> Value
 | .tmp t => match L.find? (fun x => x.1 == t) with
  | some x => (g x.2).1
  | none => match O.find? (fun x => x.1 == t) with
   | some x => x.2
   | none => undef
 | .const v => v
 | .global n => .pointer (some ⟨n,0,none⟩)
 | .func f => .func (.func f) #[] #[]
def Yld (P : Program) (ev : Operand -> Value) (o : Oper) (w : World) (R : Value -> World -> Prop) : Prop :=
 match (execOp ev o).run P w with
 | .ok (.value v) w' => R v w'
 | .ok (.enter f args) w' => Calls P f args w' fun e w'' => ∃ v,e = .returned v /\ R v w''
 | _ => False
def lstA (n m : Nat) : Array Bool := (List.replicate n true ++ List.replicate m false).toArray
def waits (o : Oper) (j : Nat) : Bool := o.after.toList.any fun e => e.on == j && Region.binds .any e
theorem waits_spec {o : Oper} {j : Nat} (h : waits o j = true) : ∃ e ∈ o.after,Region.binds .any e = true /\ e.on = j := by
 unfold waits at h
 obtain ⟨e,he,h⟩ := List.any_eq_true.1 h
 simp only [Bool.and_eq_true,beq_iff_eq] at h
 exact ⟨e,by simpa using he,h.2,h.1⟩
def chkOp (ops : Array Oper) (n : Nat) (ds : List Nat) (keys : List Nat) (L : List (Nat × Nat)) (C : List Nat) (i : Nat) : Bool :=
 match ops[i]? with
 | none => false
 | some o => o.guard.isNone && o.dst == ds[i]? && L.all (fun x => decide (x.2 < n) && ds[x.2]? == some x.1 && waits o x.2) &&
  o.op.operands.all (fun x => match x with | .tmp t => L.any (fun y => y.1 == t) || keys.contains t | _ => true) &&
  C.all (fun k => k == i || waits o k) && o.after.all (fun e => !Region.binds .any e || decide (e.on < i))
def waitsAt (ops : Array Oper) (k i : Nat) : Bool := match ops[k]? with | some o => waits o i | none => false
def chkAll (ops : Array Oper) (n mm m : Nat) (ds keys : List Nat) (L : Nat -> List (Nat × Nat)) (C : Nat -> List Nat) : Bool :=
 ops.size == n + (mm + 1) && Region.noSelect ops && ds.length == n && decide ds.Nodup && ds.all (fun d => decide (d < m)) && keys.all (fun t => !ds.contains t) &&
  (List.range n).all (fun i => chkOp ops n ds keys (L i) (C i) i) && (List.range n).all (fun i => (List.range (n + 1)).any (fun k => decide (i < k) && waitsAt ops k i)) &&
  (List.range mm).all (fun j => (List.range (n + 1 + j)).any (fun k => decide (n <= k) && waitsAt ops (n + 1 + j) k))
section
variable {P : Program} {ops : Array Oper} {Q : Exit -> Act -> World -> Prop}
structure RG (ops : Array Oper) (n : Nat) (ds : List Nat) (C : Nat -> List Nat) (F : Nat -> (Nat -> Tk) -> World -> Prop) (a0 : Act) (w0 : World) (listed : Array Bool) (g : Nat -> Tk) (a : Act) (w : World) : Prop where
 lsz : listed.size = ops.size
 lstn : ∀ j,n <= j -> listed.getD j false = false
 closed : ∀ i o j,listed.getD i false = true -> ops[i]? = some o -> waits o j = true -> listed.getD j false = true
 below : Below w0.heap.size w0 w
 defers : a.defers = a0.defers
 size : a.tmps.size = a0.tmps.size
 old : ∀ k,(∀ i,i < n -> listed.getD i false = true -> ds[i]? ≠ some k) -> a.tmps[k]? = a0.tmps[k]?
 new : ∀ i d,i < n -> listed.getD i false = true -> ds[i]? = some d -> a.tmps[d]? = some (g i).1
 fact : ∀ i,i < n -> listed.getD i false = true -> F i (restr (C i) g) w
 rng : ∀ i,i < n -> listed.getD i false = true -> w0.heap.size <= (g i).2.1 /\ (g i).2.1 <= (g i).2.2 /\ (g i).2.2 <= w.heap.size
 disj : ∀ i j,i < n -> j < n -> i ≠ j -> listed.getD i false = true -> listed.getD j false = true -> (g i).2.2 <= (g j).2.1 ∨ (g j).2.2 <= (g i).2.1
theorem countP_lt {p q : Nat -> Bool} {i : Nat} (hle : ∀ x,q x = true -> p x = true) (hp : p i = true) (hq : q i = false) : ∀ {l : List Nat},i ∈ l -> l.countP q < l.countP p
 | x :: l,h => by
  have hm : l.countP q <= l.countP p := List.countP_mono_left (fun y _ hy => hle y hy)
  rw [List.countP_cons,List.countP_cons]
  rcases List.mem_cons.1 h with e | h'
  ·subst e
   rw [hp,hq]
   simp
   omega
  ·have := countP_lt hle hp hq h'
   have h2 : (if q x = true then 1 else 0) <= (if p x = true then 1 else 0) := by
    cases hqx : q x
    ·simp
    ·rw [hle x hqx]; simp
   omega
theorem fillT_old : ∀ (ds : List Nat) (i : Nat) (g : Nat -> Tk) (t : Array Value) (k : Nat),k ∉ ds -> (fillT ds i g t)[k]? = t[k]?
 | [],_,_,_,_,_ => rfl
 | d :: ds,i,g,t,k,h => by
  unfold fillT
  rw [fillT_old ds _ _ _ _ (fun hk => h (List.mem_cons_of_mem _ hk)),Array.getElem?_setIfInBounds_ne]
  rintro rfl
  exact h (List.mem_cons_self ..)
theorem fillT_new : ∀ (ds : List Nat) (i : Nat) (g : Nat -> Tk) (t : Array Value) (j k : Nat),ds.Nodup -> ds[j]? = some k -> k < t.size -> (fillT ds i g t)[k]? = some (g (i + j)).1
 | [],_,_,_,j,k,_,h,_ => by simp at h
 | d :: ds,i,g,t,0,k,hn,h,hk => by
  simp only [List.getElem?_cons_zero,Option.some.injEq] at h
  subst h
  unfold fillT
  rw [fillT_old ds _ _ _ _ (List.nodup_cons.1 hn).1,Nat.add_zero]
  simp [hk]
 | d :: ds,i,g,t,j + 1,k,hn,h,hk => by
  simp only [List.getElem?_cons_succ] at h
  unfold fillT
  rw [fillT_new ds (i + 1) g _ j k (List.nodup_cons.1 hn).2 h (by simpa using hk)]
  congr 3
  omega
theorem restr_congr {C : List Nat} {g g' : Nat -> Tk} (h : ∀ k,k ∈ C -> g k = g' k) : restr C g = restr C g' := by
 funext k
 unfold restr
 cases hc : C.contains k
 ·rfl
 ·exact h k (by simpa using hc)
theorem rg_run {a0 : Act} {w0 : World} {n mm : Nat} {ds : List Nat} {O : List (Nat × Value)} {L : Nat -> List (Nat × Nat)} {C : Nat -> List Nat} {F : Nat -> (Nat -> Tk) -> World -> Prop}
  (chk : chkAll ops n mm a0.tmps.size ds (O.map (·.1)) L C = true) (hO : ∀ x ∈ O,a0.tmps[x.1]? = some x.2)
  (mono : ∀ i,i < n -> ∀ g w w',Below w.heap.size w w' -> (∀ k,k ∈ C i -> (g k).2.2 <= w.heap.size) -> F i (restr (C i) g) w -> F i (restr (C i) g) w')
  (step : ∀ i,i < n -> ∀ o,ops[i]? = some o -> ∀ g w,Below w0.heap.size w0 w -> (∀ j,j < n -> waits o j = true -> F j (restr (C j) g) w) ->
   (∀ j,j < n -> waits o j = true -> w0.heap.size <= (g j).2.1 /\ (g j).2.1 <= (g j).2.2 /\ (g j).2.2 <= w.heap.size) -> (∀ j k,j < n -> k < n -> j ≠ k -> waits o j = true -> waits o k = true -> (g j).2.2 <= (g k).2.1 ∨ (g k).2.2 <= (g j).2.1) ->
   Yld P (evL O (L i) g) o w fun v w' => Below w.heap.size w w' /\ F i (restr (C i) (updT g i (v,w.heap.size,w'.heap.size))) w')
  (last : ∀ fuel g w,Below w0.heap.size w0 w -> (∀ j,j < n -> F j (restr (C j) g) w) -> (∀ j,j < n -> w0.heap.size <= (g j).2.1 /\ (g j).2.1 <= (g j).2.2 /\ (g j).2.2 <= w.heap.size) ->
   (∀ j k,j < n -> k < n -> j ≠ k -> (g j).2.2 <= (g k).2.1 ∨ (g k).2.2 <= (g j).2.1) -> wpAny P .any ops Q (fuel + (mm + 1)) (lstA n (mm + 1)) ⟨fillT ds 0 g a0.tmps,a0.defers⟩ w) :
  ∀ (fuel : Nat) (listed : Array Bool) (g : Nat -> Tk) (a : Act) (w : World),RG ops n ds C F a0 w0 listed g a w -> (List.range n).countP (fun i => !listed.getD i false) + (mm + 1) <= fuel -> wpAny P .any ops Q fuel listed a w := by
 unfold chkAll at chk
 simp only [Bool.and_eq_true,beq_iff_eq,decide_eq_true_eq,List.all_eq_true,List.mem_range] at chk
 obtain ⟨⟨⟨⟨⟨⟨⟨⟨hsz,hsel⟩,hdl⟩,hnd⟩,hdm⟩,hkey⟩,hops⟩,hlast⟩,hlate⟩ := chk
 intro fuel
 induction fuel with
 | zero => intro listed g a w _ h; omega
 | succ fuel ih =>
  intro listed g a w R hf
  by_cases hall : ∀ i,i < n -> listed.getD i false = true
  ·have ha : a = ⟨fillT ds 0 g a0.tmps,a0.defers⟩ := by
    obtain ⟨at',ad⟩ := a
    have h1 : ad = a0.defers := R.defers
    subst h1
    congr 1
    refine Array.ext_getElem? (fun k => ?_)
    by_cases hk : k ∈ ds
    ·obtain ⟨j,hj⟩ := List.mem_iff_getElem?.1 hk
     have hjn : j < n := by rw [<- hdl]; exact (List.getElem?_eq_some_iff.1 hj).1
     rw [fillT_new ds 0 g _ j k hnd hj (hdm k hk),Nat.zero_add]
     exact R.new j k hjn (hall j hjn) hj
    ·rw [fillT_old ds _ _ _ _ hk]
     exact R.old k (fun i _ _ e => hk (List.mem_iff_getElem?.2 ⟨i,e⟩))
   have hl : listed = lstA n (mm + 1) := by
    refine Array.ext_getElem? (fun k => ?_)
    unfold lstA
    have h1 := R.lsz
    rcases Nat.lt_or_ge k n with h | h
    ·have h2 := hall k h
     have h3 : k < listed.size := by omega
     have h4 : listed[k]? = some true := by
      rw [Array.getD_eq_getD_getElem?,Array.getElem?_eq_getElem h3] at h2
      rw [Array.getElem?_eq_getElem h3]
      simpa using h2
     rw [h4,List.getElem?_toArray,List.getElem?_append_left (by simpa using h),List.getElem?_replicate,if_pos h]
    ·have h2 := R.lstn k h
     rcases Nat.lt_or_ge k listed.size with h3 | h3
     ·have h4 : listed[k]? = some false := by
       rw [Array.getD_eq_getD_getElem?,Array.getElem?_eq_getElem h3] at h2
       rw [Array.getElem?_eq_getElem h3]
       simpa using h2
      rw [h4,List.getElem?_toArray,List.getElem?_append_right (by simpa using h),List.getElem?_replicate,if_pos (by simp; omega)]
     ·rw [Array.getElem?_eq_none h3,Array.getElem?_eq_none (by simp; omega)]
   obtain ⟨f',hf'⟩ : ∃ f',fuel + 1 = f' + (mm + 1) := ⟨fuel - mm,by omega⟩
   rw [ha,hl,hf']
   exact last f' g w R.below (fun j hj => R.fact j hj (hall j hj)) (fun j hj => R.rng j hj (hall j hj)) (fun j k hj hk hne => R.disj j k hj hk hne (hall j hj) (hall k hk))
  ·-- one that may come up next
   have hex : ∃ i,i < n /\ listed.getD i false = false /\ ∀ j,j < i -> listed.getD j false = true := by
    have : ∀ m,m <= n -> (∃ i,i < n /\ listed.getD i false = false /\ ∀ j,j < i -> listed.getD j false = true) ∨ ∀ j,j < m -> listed.getD j false = true := by
     intro m
     induction m with
     | zero => intro _; exact .inr (fun j h => absurd h (Nat.not_lt_zero j))
     | succ m ihm =>
      intro hm
      rcases ihm (by omega) with h | h
      ·exact .inl h
      ·cases hc : listed.getD m false
       ·exact .inl ⟨m,by omega,hc,h⟩
       ·refine .inr (fun j hj => ?_)
        by_cases e : j = m
        ·rw [e]; exact hc
        ·exact h j (by omega)
    rcases this n (Nat.le_refl _) with h | h
    ·exact h
    ·exact absurd h hall
   have key : ∀ i,i < ops.size -> listed.getD i true = listed.getD i false := fun i hi => by
    simp [Array.getD,R.lsz,hi]
   have hready : Region.ready .any ops listed ≠ [] := by
    obtain ⟨i,hi,hli,hlt⟩ := hex
    have hc := hops i hi
    unfold chkOp at hc
    cases ho : ops[i]? with
    | none => rw [ho] at hc; simp at hc
    | some o =>
     rw [ho] at hc
     simp only [Bool.and_eq_true] at hc
     have hb := Array.all_eq_true_iff_forall_mem.1 hc.2
     intro e
     have hm : i ∈ Region.ready .any ops listed := mem_ready.2 ⟨by rw [key i (by omega)]; exact hli,o,ho,fun e he hbd => by
      have := hb e he
      rw [hbd] at this
      simp at this
      exact hlt _ this⟩
     rw [e] at hm
     cases hm
   refine ⟨fun h => absurd h hready,fun i hi => ?_⟩
   obtain ⟨hli,o,ho,haf⟩ := mem_ready.1 hi
   have hio : i < ops.size := (Array.getElem?_eq_some_iff.1 ho).1
   rw [key i hio] at hli
   have hwt : ∀ j,waits o j = true -> listed.getD j false = true := fun j hj => by
    obtain ⟨e,he,hb,rfl⟩ := waits_spec hj
    exact haf e he hb
   have hin : i < n := by
    rcases Nat.lt_or_ge i n with h | h
    ·exact h
    ·exfalso
     rcases Nat.lt_or_ge n i with h' | h'
     ·obtain ⟨j,rfl⟩ : ∃ j,i = n + 1 + j := ⟨i - n - 1,by omega⟩
      have h2 := hlate j (by omega)
      obtain ⟨k,hk,h3⟩ := List.any_eq_true.1 h2
      simp only [Bool.and_eq_true,decide_eq_true_eq] at h3
      unfold waitsAt at h3
      rw [ho] at h3
      have h4 := hwt k h3.2
      rw [R.lstn k h3.1] at h4
      cases h4
     ·have e : i = n := by omega
      subst e
      have hdown : ∀ d,∀ j,j < i -> i <= j + d + 1 -> listed.getD j false = true := by
       intro d
       induction d with
       | zero =>
        intro j hj hjd
        obtain ⟨k,hk,h3⟩ := List.any_eq_true.1 (hlast j hj)
        simp only [Bool.and_eq_true,decide_eq_true_eq,List.mem_range] at h3 hk
        have e : k = i := by omega
        subst e
        have h4 := h3.2
        unfold waitsAt at h4
        rw [ho] at h4
        exact hwt j h4
       | succ d ihd =>
        intro j hj hjd
        obtain ⟨k,hk,h3⟩ := List.any_eq_true.1 (hlast j hj)
        simp only [Bool.and_eq_true,decide_eq_true_eq,List.mem_range] at h3 hk
        have h4 := h3.2
        unfold waitsAt at h4
        by_cases e : k = i
        ·subst e
         rw [ho] at h4
         exact hwt j h4
        ·cases hok : ops[k]? with
         | none => rw [hok] at h4; cases h4
         | some ok =>
          rw [hok] at h4
          exact R.closed k ok j (ihd k (by omega) (by omega)) hok h4
      exact hall (fun j hj => hdown i j hj (by omega))
   have hc := hops i hin
   unfold chkOp at hc
   rw [ho] at hc
   simp only [Bool.and_eq_true,beq_iff_eq,List.all_eq_true,decide_eq_true_eq] at hc
   obtain ⟨⟨⟨⟨⟨hg,hd⟩,hL⟩,hopr⟩,hC⟩,-⟩ := hc
   have hev : execOp a.eval o = execOp (evL O (L i) g) o := by
    refine execOp_congr o (fun cs b => Region.noSelect_spec hsel i o cs b ho) (fun x hx => ?_)
    have hx2 := Array.all_eq_true_iff_forall_mem.1 hopr x hx
    cases x with
    | const v => rfl
    | global v => rfl
    | func v => rfl
    | tmp t =>
     show a.tmps.getD t undef = evL O (L i) g (.tmp t)
     cases hfd : (L i).find? (fun x => x.1 == t) with
     | some y =>
      have hy1 := List.mem_of_find?_eq_some hfd
      have hy2 := List.find?_some hfd
      simp only [beq_iff_eq] at hy2
      obtain ⟨⟨h1,h2⟩,h3⟩ := hL y hy1
      have := R.new y.2 y.1 h1 (hwt _ h3) h2
      rw [hy2] at this
      simp only [evL,hfd]
      simp [Array.getD_eq_getD_getElem?,this]
     | none =>
      have hnL : (L i).any (fun y => y.1 == t) = false := by
       rw [List.any_eq_false]
       intro y hy
       have := List.find?_eq_none.1 hfd y hy
       simpa using this
      simp only [hnL,Bool.false_or] at hx2
      cases hfo : O.find? (fun x => x.1 == t) with
      | some y =>
       have hy1 := List.mem_of_find?_eq_some hfo
       have hy2 := List.find?_some hfo
       simp only [beq_iff_eq] at hy2
       have hno : t ∉ ds := by
        have := hkey y.1 (List.mem_map.2 ⟨y,hy1,rfl⟩)
        rw [hy2] at this
        simpa using this
       have := R.old t (fun j _ _ e => hno (List.mem_iff_getElem?.2 ⟨j,e⟩))
       have hoy := hO y hy1
       rw [hy2] at hoy
       rw [hoy] at this
       simp only [evL,hfd,hfo]
       simp [Array.getD_eq_getD_getElem?,this]
      | none =>
       exfalso
       have := List.find?_eq_none.1 hfo
       have hk : t ∈ O.map (·.1) := by simpa using hx2
       obtain ⟨y,hy,rfl⟩ := List.mem_map.1 hk
       exact this y hy (by simp)
   have hY := step i hin o ho g w R.below (fun j hj hw => R.fact j hj (hwt j hw)) (fun j hj hw => R.rng j hj (hwt j hw)) (fun j k hj hk hne h1 h2 => R.disj j k hj hk hne (hwt j h1) (hwt k h2))
   have hnext : ∀ v w',Below w.heap.size w w' -> F i (restr (C i) (updT g i (v,w.heap.size,w'.heap.size))) w' -> wpAny P .any ops Q fuel (listed.setIfInBounds i true) (a.put o.dst v) w' := by
    intro v w' hb hF
    have hdi : ds[i]? = some (ds[i]'(by omega)) := List.getElem?_eq_getElem (by omega)
    have hl1 : ∀ j,(listed.setIfInBounds i true).getD j false = true ↔ j = i ∨ listed.getD j false = true := fun j => by
     by_cases e : i = j
     ·subst e
      simp [Array.getD_eq_getD_getElem?,R.lsz,hio]
     ·rw [getD_set_ne false e]
      simp [Ne.symm e]
    have hu : ∀ j,j ≠ i -> updT g i (v,w.heap.size,w'.heap.size) j = g j := fun j hj => by unfold updT; rw [if_neg hj]
    have hui : updT g i (v,w.heap.size,w'.heap.size) i = (v,w.heap.size,w'.heap.size) := by unfold updT; rw [if_pos rfl]
    refine ih _ (updT g i (v,w.heap.size,w'.heap.size)) _ _ ⟨by simp [R.lsz],fun j hj => by (rw [getD_set_ne false (by omega : i ≠ j)]; exact R.lstn j hj),?_,R.below.trans (hb.mono R.below.size),?_,?_,?_,?_,?_,?_,?_⟩ ?_
    ·intro j oj k hj hoj hk
     rw [hl1] at hj ⊢
     rcases hj with rfl | hj
     ·rw [ho] at hoj; cases hoj; exact .inr (hwt k hk)
     ·exact .inr (R.closed j oj k hj hoj hk)
    ·rw [hd,hdi]; exact R.defers
    ·rw [hd,hdi]; simp [Act.put,R.size]
    ·intro k hk
     have h1 : ds[i]'(by omega) ≠ k := fun e => hk i hin ((hl1 i).2 (.inl rfl)) (by rw [hdi,e])
     rw [hd,hdi]
     simp only [Act.put,Array.getElem?_setIfInBounds_ne h1]
     exact R.old k (fun j hj hl => hk j hj ((hl1 j).2 (.inr hl)))
    ·intro j d hj hl hdj
     by_cases e : j = i
     ·subst e
      rw [hui,hd,hdj]
      have : d < a.tmps.size := by rw [R.size]; exact hdm d (List.mem_iff_getElem?.2 ⟨j,hdj⟩)
      simp [Act.put,this]
     ·rw [hu j e,hd,hdi]
      have hne : ds[i]'(by omega) ≠ d := fun e2 => e ((List.getElem?_inj (by omega) hnd).1 (by rw [hdj,hdi,e2]))
      simp only [Act.put,Array.getElem?_setIfInBounds_ne hne]
      exact R.new j d hj (((hl1 j).1 hl).resolve_left e) hdj
    ·intro j hj hl
     by_cases e : j = i
     ·subst e; exact hF
     ·have hlj := ((hl1 j).1 hl).resolve_left e
      have hcj := hops j hj
      unfold chkOp at hcj
      cases hoj : ops[j]? with
      | none => rw [hoj] at hcj; simp at hcj
      | some oj =>
       rw [hoj] at hcj
       simp only [Bool.and_eq_true,List.all_eq_true] at hcj
       have hCj : ∀ k,k ∈ C j -> k < n /\ listed.getD k false = true := fun k hk => by
        have hk2 := hcj.1.2 k hk
        simp only [Bool.or_eq_true,beq_iff_eq] at hk2
        rcases hk2 with h2 | h2
        ·rw [h2]; exact ⟨hj,hlj⟩
        ·refine ⟨?_,R.closed j oj k hlj hoj h2⟩
         obtain ⟨e',he',hb',hke⟩ := waits_spec h2
         have := Array.all_eq_true_iff_forall_mem.1 hcj.2 e' he'
         rw [hb'] at this
         simp at this
         omega
       rw [show restr (C j) (updT g i (v,w.heap.size,w'.heap.size)) = restr (C j) g from restr_congr (fun k hk => hu k (fun e2 => by
        have := (hCj k hk).2
        rw [e2,hli] at this
        cases this))]
       exact mono j hj g w w' hb (fun k hk => (R.rng k (hCj k hk).1 (hCj k hk).2).2.2) (R.fact j hj hlj)
    ·intro j hj hl
     by_cases e : j = i
     ·subst e
      rw [hui]
      exact ⟨R.below.size,hb.size,Nat.le_refl _⟩
     ·rw [hu j e]
      have := R.rng j hj (((hl1 j).1 hl).resolve_left e)
      exact ⟨this.1,this.2.1,Nat.le_trans this.2.2 hb.size⟩
    ·intro j k hj hk hne hlj hlk
     by_cases e : j = i
     ·subst e
      have hk2 := ((hl1 k).1 hlk).resolve_left (Ne.symm hne)
      rw [hui,hu k (Ne.symm hne)]
      exact .inr (R.rng k hk hk2).2.2
     ·have hj2 := ((hl1 j).1 hlj).resolve_left e
      by_cases e2 : k = i
      ·subst e2
       rw [hui,hu j e]
       exact .inl (R.rng j hj hj2).2.2
      ·rw [hu j e,hu k e2]
       exact R.disj j k hj hk hne hj2 (((hl1 k).1 hlk).resolve_left e2)
    ·have := countP_lt (p := fun j => !listed.getD j false) (q := fun j => !(listed.setIfInBounds i true).getD j false) (i := i) (fun x hx => by
      cases hlx : listed.getD x false
      ·rfl
      ·rw [(hl1 x).2 (.inr hlx)] at hx; simp at hx) (by simp [hli]) (by rw [(hl1 i).2 (.inl rfl)]; rfl) (List.mem_range.2 hin)
     omega
   unfold wpOp
   rw [ho]
   have hwa : Region.wanted o (yielded ops a.tmps) = true := by
    unfold Region.wanted
    cases hgd : o.guard with
    | none => rfl
    | some x => rw [hgd] at hg; simp at hg
   simp only [hwa,if_true]
   refine .inl ?_
   unfold Oper.wp
   rw [hev]
   unfold Yld at hY
   generalize (execOp (evL O (L i) g) o).run P w = r at hY
   cases r with
   | halt x w' => exact hY.elim
   | ok x w' =>
    cases x with
    | value v => exact hnext v w' hY.1 hY.2
    | enter f args =>
     refine Calls.mono hY (fun e w'' he => ?_)
     obtain ⟨v,rfl,h1,h2⟩ := he
     exact hnext v w'' h1 h2
    | skip => exact hY.elim
    | defer d => exact hY.elim
    | row r args => exact hY.elim
    | _ => exact hY.elim
theorem wp_region_grow {id : Nat} {a0 : Act} {w : World} (hm : P.follows .mixedOrders = true) (n mm : Nat) (ds : List Nat) (O : List (Nat × Value)) (L : Nat -> List (Nat × Nat)) (C : Nat -> List Nat) (F : Nat -> (Nat -> Tk) -> World -> Prop)
  (m : Nat) (hm2 : a0.tmps.size = m) (chk : chkAll ops n mm m ds (O.map (·.1)) L C = true) (hO : ∀ x ∈ O,a0.tmps[x.1]? = some x.2)
  (mono : ∀ i,i < n -> ∀ g w w',Below w.heap.size w w' -> (∀ k,k ∈ C i -> (g k).2.2 <= w.heap.size) -> F i (restr (C i) g) w -> F i (restr (C i) g) w')
  (step : ∀ i,i < n -> ∀ o,ops[i]? = some o -> ∀ g w2,Below w.heap.size w.drew w2 -> (∀ j,j < n -> waits o j = true -> F j (restr (C j) g) w2) ->
   (∀ j,j < n -> waits o j = true -> w.heap.size <= (g j).2.1 /\ (g j).2.1 <= (g j).2.2 /\ (g j).2.2 <= w2.heap.size) -> (∀ j k,j < n -> k < n -> j ≠ k -> waits o j = true -> waits o k = true -> (g j).2.2 <= (g k).2.1 ∨ (g k).2.2 <= (g j).2.1) ->
   Yld P (evL O (L i) g) o w2 fun v w' => Below w2.heap.size w2 w' /\ F i (restr (C i) (updT g i (v,w2.heap.size,w'.heap.size))) w')
  (last : ∀ fuel g w2,Below w.heap.size w.drew w2 -> (∀ j,j < n -> F j (restr (C j) g) w2) -> (∀ j,j < n -> w.heap.size <= (g j).2.1 /\ (g j).2.1 <= (g j).2.2 /\ (g j).2.2 <= w2.heap.size) ->
   (∀ j k,j < n -> k < n -> j ≠ k -> (g j).2.2 <= (g k).2.1 ∨ (g k).2.2 <= (g j).2.1) -> wpAny P .any ops Q (fuel + (mm + 1)) (lstA n (mm + 1)) ⟨fillT ds 0 g a0.tmps,a0.defers⟩ w2) : (Code.region id ops true).wp P Q a0 w := by
 refine wp_region_any hm ?_
 subst hm2
 have hsz : ops.size = n + (mm + 1) := by
  unfold chkAll at chk
  simp only [Bool.and_eq_true,beq_iff_eq] at chk
  exact chk.1.1.1.1.1.1.1.1
 have hf : ∀ i,(Array.replicate ops.size false).getD i false = false := fun i => by
  by_cases h : i < ops.size <;> simp [Array.getD,h]
 refine rg_run (w0 := w.drew) chk hO mono step last ops.size (Array.replicate ops.size false) (fun _ => zT) a0 w.drew
  ⟨by simp,fun j _ => hf j,fun i o j h => by (rw [hf] at h; exact absurd h (by decide)),Below.refl _ _,rfl,rfl,fun _ _ => rfl,fun i d _ h => by (rw [hf] at h; exact absurd h (by decide)),fun i _ h => by (rw [hf] at h; exact absurd h (by decide)),fun i _ h => by (rw [hf] at h; exact absurd h (by decide)),fun i j _ _ _ h => by (rw [hf] at h; exact absurd h (by decide))⟩ ?_
 have : (List.range n).countP (fun i => !(Array.replicate ops.size false).getD i false) <= n := by
  have := List.countP_le_length (p := fun i => !(Array.replicate ops.size false).getD i false) (l := List.range n)
  rwa [List.length_range] at this
 omega
end
end Go.Proofs.YtfpeakkbbfnhcaaGreat.A
namespace Go.Proofs.YtfpeakkbbfnhcaaGreat.A
open Go.RowKit Go.Proofs.YtfpeakkbbfnhcaaGreat.D Go.Proofs.YtfpeakkbbfnhcaaGreat.O
theorem ClB.make {w : World} {B tb : Nat} {n s : ByteArray} {vi vf vm : Value} {k : Int} {is : List ByteArray} {fs : List Fld} {rs : List (Raw 9)} {ms : List Mth} (htb : tb = w.heap.size) (hB : B <= w.heap.size)
  (hi : RdX 1 (sP strC) (fun b => B <= b /\ vm.ownBlock ≠ some b) w vi is) (hf : RdX 4 (sP fldC) (fun b => B <= b /\ vm.ownBlock ≠ some b) w vf fs) (ho : OwnX 9 49 (sP rawC) w B vm rs)
  (hm : All2 (fun r x => mP (fun b => B <= b /\ vm.ownBlock ≠ some b) w (rawC r) x) rs ms) :
  ClB (w.alloc (.cells #[.string n,.string s,vi,.int .i64 k,vf,vm] 42)) B tb vi vf vm rs ⟨n,s,is,k,fs,ms⟩ /\ Below B w (w.alloc (.cells #[.string n,.string s,vi,.int .i64 k,vf,vm] 42)) := by
 subst htb
 have hb : Below w.heap.size w (w.alloc (.cells #[.string n,.string s,vi,.int .i64 k,vf,vm] 42)) := below_alM _ _
 have hoo : ∀ b,(B <= b /\ vm.ownBlock ≠ some b) -> b < w.heap.size -> okT B w.heap.size vm b := fun b h hl => ⟨h.1,by omega,h.2⟩
 refine ⟨⟨heap_alloc_new _ _,hB,hi.step (sP.grow _) hoo (.of_below hb) hb.size,hf.step (sP.grow _) hoo (.of_below hb) hb.size,ho.kptS (.of_below hb : Kpt [] w _) (fun _ _ => by simp),hm.imp (fun r x h => mP.grow _ _ _ _ _ _ h hoo (.of_below hb) hb.size),fun e => ?_⟩,hb.mono hB⟩
 have := (ho.lt _ e).2
 omega
theorem ClB.lits {w : World} {B tb : Nat} {vi vf : Value} {c : Cls} (h : ClB w B tb vi vf (.slice none 0 0) [] c) (hB : B <= w.heap.size) {rs : List (Raw 9)} {ms : List Mth} (hm : All2 (fun r x => mP (okT B tb (.slice none 0 0)) w (rawC r) x) rs ms) (lit : Array Value) (hl : lit.toList = rs.flatMap rawC) (n : Nat) (hn : n = rs.length) (h9 : n <= 1000000) :
  ClB ((w.setCell ⟨tb,5,none⟩ (.slice (some ⟨w.heap.size,0,none⟩) n n)).alloc (.cells lit 49)) B tb vi vf (.slice (some ⟨w.heap.size,0,none⟩) n n) rs ⟨c.name,c.super,c.ifaces,c.kind,c.fields,ms⟩ /\
   Below B w ((w.setCell ⟨tb,5,none⟩ (.slice (some ⟨w.heap.size,0,none⟩) n n)).alloc (.cells lit 49)) := by
 have hlt := h.lt
 obtain ⟨h1,h2,h3,h4,h5,h6,h7⟩ := h
 obtain ⟨W5,hW5⟩ : ∃ x,x = w.setCell ⟨tb,5,none⟩ (.slice (some ⟨w.heap.size,0,none⟩) n n) := ⟨_,rfl⟩
 rw [<- hW5]
 have kS : Kpt [tb] w W5 := by rw [hW5]; exact Kpt.set _ _ _ _ _ (by simp)
 have hzS : W5.heap.size = w.heap.size := by rw [hW5]; simp
 have bA : Below W5.heap.size W5 (W5.alloc (.cells lit 49)) := below_alM _ _
 have kA : Kpt [tb] w (W5.alloc (.cells lit 49)) := kS.trans (.of_below bA : Kpt [tb] W5 _) (fun x hx => .inl hx)
 have hol : OwnX 9 49 (sP rawC) (W5.alloc (.cells lit 49)) w.heap.size (.slice (some ⟨w.heap.size,0,none⟩) n n) rs := by
  have := OwnX.lits (T := 49) rawC_len W5 rs lit hl n hn h9
  rwa [hzS] at this
 have hoo : ∀ b,okT B tb (.slice none 0 0) b -> b < w.heap.size -> okT B tb (.slice (some ⟨w.heap.size,0,none⟩) n n) b := fun b hb hl => ⟨hb.1,hb.2.1,by simp [Value.ownBlock]; omega⟩
 have kk : Keeps (okT B tb (.slice none 0 0)) w (W5.alloc (.cells lit 49)) := .of_kpt kA (fun b hb => by simpa using hb.2.1)
 have hct : (W5.alloc (.cells lit 49)).heap[tb]? = some (.cells #[.string c.name,.string c.super,vi,.int .i64 c.kind,vf,.slice (some ⟨w.heap.size,0,none⟩) n n] 42 (0,0)) := by
  rw [bA.block _ (by omega),hW5,heap_setCell_same w tb 5 _ _ _ h1]; rfl
 exact ⟨⟨hct,h2,h3.step (sP.grow _) hoo kk kA.size,h4.step (sP.grow _) hoo kk kA.size,hol.mono (sP.grow _) hB,hm.imp (fun r x h => mP.grow _ _ _ _ _ _ h hoo kk kA.size),by simp [Value.ownBlock]; omega⟩,kA.below (fun x hx => by simp at hx; omega) hB⟩
theorem ClB.okNew {w : World} {B tb : Nat} {vi vf vm : Value} {rs : List (Raw 9)} {c : Cls} (h : ClB w B tb vi vf vm rs c) (hB : B <= w.heap.size) : ∀ b,w.heap.size <= b -> okT B tb vm b := fun b hb => by
 have h1 := h.lt
 refine ⟨by omega,by omega,fun e => ?_⟩
 have := (h.2.2.2.2.1.lt b e).2
 omega
theorem ClB.ready {w : World} {B tb : Nat} {vi vf vm : Value} {rs : List (Raw 9)} {c : Cls} (h : ClB w B tb vi vf vm rs c) (hB : B <= w.heap.size) (l : List Value) (m : Mth) (hm : mP (okT B tb vm) w l m) (lit : Array Value) (hlit : lit.toList = l) :
  ∃ rX : Raw 9,RdX 9 (sP rawC) anyB (w.alloc (.cells lit 49)) (.slice (some ⟨w.heap.size,0,none⟩) 1 1) [rX] /\ ClB (w.alloc (.cells lit 49)) B tb vi vf vm rs c /\ B <= (w.alloc (.cells lit 49)).heap.size /\
   mP (okT B tb vm) (w.alloc (.cells lit 49)) (rawC rX) m /\ Below B w (w.alloc (.cells lit 49)) := by
 have hbl := below_alM w (.cells lit 49)
 exact ⟨⟨l,shape_mth _ _ _ _ hm⟩,rdX_lit1 rawC_len w (⟨l,shape_mth _ _ _ _ hm⟩ : Raw 9) _ _ hlit,h.below hbl,Nat.le_trans hB hbl.size,mP.grow _ _ _ _ _ _ hm (fun _ h _ => h) (.of_below hbl) hbl.size,hbl.mono hB⟩
theorem ClB.ifs {w : World} {B tb : Nat} {vi vf vm : Value} {rs : List (Raw 9)} {c : Cls} (h : ClB w B tb vi vf vm rs c) (hB : B <= w.heap.size) (is : List ByteArray) (lit : Array Value) (hl : lit.toList = is.flatMap strC) (n : Nat) (hn : n = is.length) :
  ClB ((w.setCell ⟨tb,2,none⟩ (.slice (some ⟨w.heap.size,0,none⟩) n n)).alloc (.cells lit 9)) B tb (.slice (some ⟨w.heap.size,0,none⟩) n n) vf vm rs ⟨c.name,c.super,is,c.kind,c.fields,c.methods⟩ /\
   Below B w ((w.setCell ⟨tb,2,none⟩ (.slice (some ⟨w.heap.size,0,none⟩) n n)).alloc (.cells lit 9)) := by
 have hlt := h.lt
 have hnew := h.okNew hB w.heap.size (Nat.le_refl _)
 obtain ⟨h1,h2,h3,h4,h5,h6,h7⟩ := h
 obtain ⟨W5,hW5⟩ : ∃ x,x = w.setCell ⟨tb,2,none⟩ (.slice (some ⟨w.heap.size,0,none⟩) n n) := ⟨_,rfl⟩
 rw [<- hW5]
 have kS : Kpt [tb] w W5 := by rw [hW5]; exact Kpt.set _ _ _ _ _ (by simp)
 have hzS : W5.heap.size = w.heap.size := by rw [hW5]; simp
 have bA : Below W5.heap.size W5 (W5.alloc (.cells lit 9)) := below_alM _ _
 have kA : Kpt [tb] w (W5.alloc (.cells lit 9)) := kS.trans (.of_below bA : Kpt [tb] W5 _) (fun x hx => .inl hx)
 have hi : RdX 1 (sP strC) (okT B tb vm) (W5.alloc (.cells lit 9)) (.slice (some ⟨w.heap.size,0,none⟩) n n) is := by
  have := rd_lit_next (c := strC) (sz := 1) (Below.refl (W5.alloc (.cells lit 9)).heap.size (W5.alloc (.cells lit 9))) is hl (fun _ => rfl) (okT B tb vm) (by rw [hzS]; exact hnew) n hn
  rwa [hzS] at this
 have kk : Keeps (okT B tb vm) w (W5.alloc (.cells lit 9)) := .of_kpt kA (fun b hb => by simpa using hb.2.1)
 have hct : (W5.alloc (.cells lit 9)).heap[tb]? = some (.cells #[.string c.name,.string c.super,.slice (some ⟨w.heap.size,0,none⟩) n n,.int .i64 c.kind,vf,vm] 42 (0,0)) := by
  rw [bA.block _ (by omega),hW5,heap_setCell_same w tb 2 _ _ _ h1]; rfl
 exact ⟨⟨hct,h2,hi,h4.step (sP.grow _) (fun _ h _ => h) kk kA.size,h5.kptS kA (fun g e => by simp; rintro rfl; exact h7 e),h6.imp (fun r x h => mP.grow _ _ _ _ _ _ h (fun _ h _ => h) kk kA.size),h7⟩,kA.below (fun x hx => by simp at hx; omega) hB⟩
theorem raws_of {α : Type} {sz : Nat} {P : Pv α} (hS : Shape P sz) {ok : Nat -> Prop} {W : World} : ∀ {ls : List (List Value)} {cs : List α},All2 (fun l c => P ok W l c) ls cs -> ∃ rs : List (Raw sz),rs.map rawC = ls /\ All2 (fun r x => P ok W (rawC r) x) rs cs
 | [],[],_ => ⟨[],rfl,trivial⟩
 | l :: ls,c :: cs,h => by
  obtain ⟨rs,h1,h2⟩ := raws_of hS (ls := ls) (cs := cs) h.2
  exact ⟨⟨l,hS _ _ _ _ h.1⟩ :: rs,by rw [List.map_cons,h1]; rfl,h.1,h2⟩
 | [],_ :: _,h => h.elim
 | _ :: _,[],h => h.elim
theorem All2.nil {α β : Type} {R : α -> β -> Prop} : All2 R [] [] := trivial
theorem All2.cons {α β : Type} {R : α -> β -> Prop} {a : α} {b : β} {xs : List α} {ys : List β} (h : R a b) (t : All2 R xs ys) : All2 R (a :: xs) (b :: ys) := ⟨h,t⟩
theorem All2.rev {α β : Type} {R : α -> β -> Prop} : ∀ {xs : List α} {ys : List β},All2 R xs ys -> All2 R xs.reverse ys.reverse
 | [],[],_ => trivial
 | a :: xs,b :: ys,h => by
  rw [List.reverse_cons,List.reverse_cons]
  exact (All2.rev h.2).app ⟨h.1,trivial⟩
 | [],_ :: _,h => h.elim
 | _ :: _,[],h => h.elim
theorem rd_lits2 {α : Type} {sz : Nat} {P : Pv α} (hS : Shape P sz) (hM : MonoG P) {ok : Nat -> Prop} {W : World} {ls : List (List Value)} {cs : List α} (h : All2 (fun l c => P ok W l c) ls cs) (lit : Array Value) (hl : lit.toList = ls.flatten) (T : TypeId) (n : Nat) (hn : n = cs.length) (hok : ok W.heap.size) :
  RdX sz P ok (W.alloc (.cells lit T)) (.slice (some ⟨W.heap.size,0,none⟩) n n) cs := by
 obtain ⟨rs,h1,h2⟩ := raws_of hS h
 have hb := below_alM W (.cells lit T)
 refine RdX.raw (rs := rs) ?_ (h2.imp (fun r x h => hM _ _ _ _ _ _ h (fun _ h _ => h) (.of_below hb) hb.size))
 exact rd_lit_next (c := rawC) (Below.refl _ _) rs (by rw [hl,<- h1,List.flatMap_def]) rawC_len ok hok n (by rw [hn,h2.len])
theorem RdX.unraw {α : Type} {sz : Nat} {P : Pv α} (hS : Shape P sz) {ok : Nat -> Prop} {w : World} {v : Value} {xs : List α} (h : RdX sz P ok w v xs) : ∃ rs : List (Raw sz),RdX sz (sP rawC) ok w v rs /\ All2 (fun r x => P ok w (rawC r) x) rs xs := by
 obtain ⟨p,cap,rfl,h1,h2,h3⟩ := h
 rcases h3 with rfl | ⟨b,off,rfl,hb,hlt,hc⟩
 ·exact ⟨[],⟨p,cap,rfl,h1,h2,.inl rfl⟩,trivial⟩
 ·have key : ∀ (xs : List α) (off : Nat),(∀ (i : Nat) x,xs[i]? = some x -> ∃ vs,P ok w vs x /\ ∀ (j : Nat) u,vs[j]? = some u -> w.cell? ⟨b,off + i * sz + j,none⟩ = some u) ->
    ∃ rs : List (Raw sz),All2 (fun r x => P ok w (rawC r) x) rs xs /\ ∀ (i : Nat) r,rs[i]? = some r -> ∀ (j : Nat) u,(rawC r)[j]? = some u -> w.cell? ⟨b,off + i * sz + j,none⟩ = some u := by
   intro xs
   induction xs with
   | nil => exact fun _ _ => ⟨[],trivial,fun i r h => by simp at h⟩
   | cons x xs ih =>
    intro off hc
    obtain ⟨vs,hv,hcell⟩ := hc 0 x rfl
    obtain ⟨rs,r1,r2⟩ := ih (off + sz) (fun i y hy => by
     obtain ⟨vs,hv,hcell⟩ := hc (i + 1) y (by simpa using hy)
     refine ⟨vs,hv,fun j u hu => ?_⟩
     have := hcell j u hu
     rwa [show off + (i + 1) * sz + j = off + sz + i * sz + j by rw [Nat.succ_mul]; omega] at this)
    refine ⟨⟨vs,hS _ _ _ _ hv⟩ :: rs,⟨hv,r1⟩,fun i r hr j u hu => ?_⟩
    cases i with
    | zero =>
     simp only [List.getElem?_cons_zero,Option.some.injEq] at hr
     subst hr
     exact hcell j u hu
    | succ i =>
     have := r2 i r (by simpa using hr) j u hu
     rwa [show off + (i + 1) * sz + j = off + sz + i * sz + j by rw [Nat.succ_mul]; omega]
  obtain ⟨rs,r1,r2⟩ := key xs off hc
  have hl := r1.len
  refine ⟨rs,⟨_,cap,by rw [hl],by rw [hl]; exact h1,(fun h => by cases h),.inr ⟨b,off,rfl,hb,hlt,fun i r hr => ⟨_,rfl,r2 i r hr⟩⟩⟩,r1⟩
theorem flat_len {sz : Nat} : ∀ (rs : List (Raw sz)),(rs.flatMap rawC).length = rs.length * sz
 | [] => by simp
 | r :: rs => by rw [List.flatMap_cons,List.length_append,rawC_len,flat_len rs,List.length_cons,Nat.succ_mul,Nat.add_comm]
theorem flat_at {sz : Nat} : ∀ (rs : List (Raw sz)) (i : Nat) (r : Raw sz),rs[i]? = some r -> ((rs.flatMap rawC).drop (i * sz)).take sz = rawC r
 | [],i,r,h => by simp at h
 | a :: rs,0,r,h => by
  simp only [List.getElem?_cons_zero,Option.some.injEq] at h
  subst h
  rw [List.flatMap_cons,Nat.zero_mul,List.drop_zero,List.take_left' (rawC_len a)]
 | a :: rs,i + 1,r,h => by
  rw [List.flatMap_cons,Nat.succ_mul,Nat.add_comm (i * sz) sz,<- List.drop_drop,List.drop_left' (rawC_len a)]
  exact flat_at rs i r (by simpa using h)
theorem flat_cells {sz : Nat} (w : World) (b : Nat) : ∀ (rs : List (Raw sz)) (off : Nat),(∀ (i : Nat) r,rs[i]? = some r -> ∀ (j : Nat) u,(rawC r)[j]? = some u -> w.cell? ⟨b,off + i * sz + j,none⟩ = some u) -> ∀ (j : Nat) u,(rs.flatMap rawC)[j]? = some u -> w.cell? ⟨b,off + j,none⟩ = some u
 | [],_,_,j,u,h => by simp at h
 | a :: rs,off,hc,j,u,h => by
  rw [List.flatMap_cons] at h
  by_cases hj : j < sz
  ·rw [List.getElem?_append_left (by rw [rawC_len]; exact hj)] at h
   have := hc 0 a rfl j u h
   rwa [Nat.zero_mul,Nat.add_zero] at this
  ·rw [List.getElem?_append_right (by rw [rawC_len]; omega),rawC_len] at h
   have := flat_cells w b rs (off + sz) (fun i r hr j u hu => by
    have := hc (i + 1) r (by simpa using hr) j u hu
    rwa [show off + (i + 1) * sz + j = off + sz + i * sz + j by rw [Nat.succ_mul]; omega] at this) (j - sz) u h
   rwa [show off + sz + (j - sz) = off + j by omega] at this
theorem run_growR {sz bytes : Nat} {T TS : TypeId} {z : Value} (hI : Inf T TS sz bytes z) (w : World) (xs ys : List (Raw sz)) (g n1 c1 g2 off2 n2 c2 : Nat) {o1 o2 : Nat -> Prop} (hx : RdX sz (sP rawC) o1 w (.slice (some ⟨g,0,none⟩) n1 c1) xs) (hy : RdX sz (sP rawC) o2 w (.slice (some ⟨g2,off2,none⟩) n2 c2) ys)
  (hfull : c1 < n1 + n2) (hb : n1 + n2 <= 1000000) (ty : TypeId) :
  ∃ v' w',(Builtin.append_ #[TS,TS] ty #[.slice (some ⟨g,0,none⟩) n1 c1,.slice (some ⟨g2,off2,none⟩) n2 c2]).run Tryz.prog w = .ok v' w' /\ OwnX sz T (sP rawC) w' w.heap.size v' (xs ++ ys) /\ Below w.heap.size w w' := by
 obtain ⟨hi0,hund,hzs,hsz,hby⟩ := hI
 obtain ⟨i0,hi,hz0,hz1,hz2⟩ := info_parts hi0
 have hcell : ∀ {n c b o : Nat} {xs : List (Raw sz)} {ok : Nat -> Prop},RdX sz (sP rawC) ok w (.slice (some ⟨b,o,none⟩) n c) xs -> n = xs.length /\ ∀ (j : Nat) u,(xs.flatMap rawC)[j]? = some u -> w.cell? ⟨b,o + j,none⟩ = some u := by
  intro n c b o xs ok h
  obtain ⟨p,cap,e,_,_,h3⟩ := h
  simp only [Value.slice.injEq] at e
  obtain ⟨rfl,rfl,rfl⟩ := e
  refine ⟨rfl,?_⟩
  rcases h3 with rfl | ⟨b',off,e,_,_,hc⟩
  ·intro j u h; simp at h
  ·simp only [Option.some.injEq,Addr.mk.injEq,and_true] at e
   obtain ⟨rfl,rfl⟩ := e
   refine flat_cells w b xs o (fun i r hr j u hu => ?_)
   obtain ⟨vs,rfl,hcc⟩ := hc i r hr
   exact hcc j u hu
 obtain ⟨rfl,h1⟩ := hcell hx
 obtain ⟨rfl,h2⟩ := hcell hy
 have hbb : (xs.length + ys.length) * bytes <= 140737488355328 := Nat.le_trans (Nat.mul_le_mul hb hby) (by decide)
 obtain ⟨v',w',hrun,r1,r2⟩ := run_append_arg_grows (P := Tryz.prog) w TS ty T i0 z sz bytes hund hi hz0 hz1 hz2 hzs hsz ⟨g,0,none⟩ xs.length c1 (xs.flatMap rawC) (flat_len xs) (fun j u hj => by rw [Addr.add_lit]; exact h1 j u hj) ⟨g2,off2,none⟩ ys.length c2 (ys.flatMap rawC) (flat_len ys) (fun j u hj => by rw [Addr.add_lit]; exact h2 j u hj) hfull (by unfold maxLen; omega) hbb
 refine ⟨v',w',hrun,⟨xs.flatMap rawC ++ ys.flatMap rawC,by rw [List.length_append]; exact r1,fun i r hr => ?_⟩,⟨r2.os,r2.tape,r2.output,r2.size,fun k hk => r2.block k hk (fun e => by cases e)⟩⟩
 rw [<- List.flatMap_append]
 exact flat_at _ i r hr
theorem oper_appM {α : Type} {sz bytes : Nat} {T TS : TypeId} {z : Value} (hI : Inf T TS sz bytes z) {c : α -> List Value} (hS : Shape (sP c) sz) {w : World} {o : Oper} {a : Act} {K : Act -> World -> Prop} {Q : Exit -> Act -> World -> Prop}
  (hg : o.guard = none) (s x : Operand) (ho : o.op = .call { callee := .builtin .append,args := #[s,x],argTypes := #[TS,TS] })
  (B : Nat) (v : Value) (xs : List α) (hs : a.eval s = v) (hown : OwnX sz T (sP c) w B v xs) (g off n cap : Nat) (ys : List α) (hx : a.eval x = .slice (some ⟨g,off,none⟩) n cap) (hr : RdX sz (sP c) anyB w (.slice (some ⟨g,off,none⟩) n cap) ys)
  (hb : xs.length + ys.length <= 1000000) (hbase : B <= w.heap.size)
  (h : ∀ v' w',OwnX sz T (sP c) w' B v' (xs ++ ys) -> w.grownBy w' v.ownBlock -> (v'.ownBlock = v.ownBlock ∨ v'.ownBlock = some w.heap.size) -> K (a.put o.dst v') w') : Oper.wp Tryz.prog o a w K Q := by
 have hw : Region.wanted o (yielded #[] a.tmps) = true := by simp [Region.wanted,hg]
 have := step_appM (ops := #[]) (E := False) (Q := Q) hI hS hw s x ho B v xs hs hown g off n cap ys hx hr hb hbase h
 rwa [if_pos hw] at this
def ArB (w : World) (B gb : Nat) (v : Value) (rs : List (Raw 6)) (cs : List Cls) : Prop :=
 w.heap[gb]? = some (.cells #[v] 28 (0,0)) /\ B <= gb /\ OwnX 6 42 (sP rawC) w B v rs /\ All2 (fun r c => cP (okT B gb v) w (rawC r) c) rs cs /\ v.ownBlock ≠ some gb
theorem ArB.lt {w : World} {B gb : Nat} {v : Value} {rs : List (Raw 6)} {cs : List Cls} (h : ArB w B gb v rs cs) : gb < w.heap.size := (Array.getElem?_eq_some_iff.1 h.1).1
theorem ArB.cells {w : World} {B gb : Nat} {v : Value} {rs : List (Raw 6)} {cs : List Cls} (h : ArB w B gb v rs cs) : gb < w.heap.size /\ w.cell? ⟨gb,0,none⟩ = some v /\ w.frozen? ⟨gb,0,none⟩ = false := by
 refine ⟨h.lt,?_,?_⟩ <;> simp [World.cell?,World.frozen?,h.1]
theorem ArB.below {w w' : World} {B gb : Nat} {v : Value} {rs : List (Raw 6)} {cs : List Cls} (h : ArB w B gb v rs cs) (hb : Below w.heap.size w w') : ArB w' B gb v rs cs := by
 have hlt := h.lt
 obtain ⟨h1,h2,h3,h4,h5⟩ := h
 exact ⟨(hb.block _ hlt).trans h1,h2,h3.kptS (.of_below hb : Kpt [] w w') (fun _ _ => by simp),h4.imp (fun r x h => cP.grow _ _ _ _ _ _ h (fun _ h _ => h) (.of_below hb) hb.size),h5⟩
theorem ArB.app {w w1 : World} {B gb : Nat} {v v' : Value} {rs rs2 : List (Raw 6)} {cs cs2 : List Cls} (h : ArB w B gb v rs cs) (hB : B <= w.heap.size) (hm : All2 (fun r c => cP (okT B gb v) w (rawC r) c) rs2 cs2) (ho : OwnX 6 42 (sP rawC) w1 B v' (rs ++ rs2)) (hg : w.grownBy w1 v.ownBlock) (hl : v'.ownBlock = v.ownBlock ∨ v'.ownBlock = some w.heap.size) :
  gb < w1.heap.size /\ w1.cell? ⟨gb,0,none⟩ = some v /\ w1.frozen? ⟨gb,0,none⟩ = false /\ ArB (w1.setCell ⟨gb,0,none⟩ v') B gb v' (rs ++ rs2) (cs ++ cs2) /\ Below B w (w1.setCell ⟨gb,0,none⟩ v') := by
 have hlt := h.lt
 obtain ⟨h1,h2,h5,h6,h7⟩ := h
 have hw1 : w1.heap[gb]? = some (.cells #[v] 28 (0,0)) := by rw [hg.block gb hlt (fun e => h7 e.symm)]; exact h1
 have k1 : Kpt v.ownBlock.toList w w1 := .of_grown hg (fun g e => .inl (by rw [e]; simp))
 have k2 : Kpt [gb] w1 (w1.setCell ⟨gb,0,none⟩ v') := Kpt.set _ _ _ _ _ (by simp)
 have hne : v'.ownBlock ≠ some gb := by
  rcases hl with e | e
  ·rw [e]; exact h7
  ·rw [e]; simp only [ne_eq,Option.some.injEq]; omega
 have kk : Keeps (okT B gb v) w (w1.setCell ⟨gb,0,none⟩ v') := fun b hb hlb => by
  rw [k2.2 b (Nat.lt_of_lt_of_le hlb hg.size) (by simpa using hb.2.1),k1.2 b hlb (by simpa using fun e => hb.2.2 e)]
 have hoo : ∀ b,okT B gb v b -> b < w.heap.size -> okT B gb v' b := fun b hb hlb => ⟨hb.1,hb.2.1,by
  rcases hl with e | e
  ·rw [e]; exact hb.2.2
  ·rw [e]; simp only [ne_eq,Option.some.injEq]; omega⟩
 have hsz : w.heap.size <= (w1.setCell ⟨gb,0,none⟩ v').heap.size := Nat.le_trans hg.size k2.size
 refine ⟨Nat.lt_of_lt_of_le hlt hg.size,by simp [World.cell?,hw1],by simp [World.frozen?,hw1],⟨?_,h2,ho.kptS k2 (fun g e => by simp; rintro rfl; exact hne e),?_,hne⟩,?_⟩
 ·rw [heap_setCell_same w1 gb 0 _ _ _ hw1]; rfl
 ·exact (h6.imp (fun r x h => cP.grow _ _ _ _ _ _ h hoo kk hsz)).app (hm.imp (fun r x h => cP.grow _ _ _ _ _ _ h hoo kk hsz))
 ·have b1 : Below B w w1 := ⟨hg.os,hg.tape,hg.output,hg.size,fun k hk => hg.block k (by omega) (fun e => by have := (h5.lt k e.symm).1; omega)⟩
  exact b1.trans (k2.below (fun x hx => by simp at hx; omega) (Nat.le_trans hB hg.size))
theorem ArB.make {w : World} {B gb s6 : Nat} {v : Value} {rs : List (Raw 6)} {cs : List Cls} (hz : w.heap[gb]? = some (.cells #[.slice none 0 0] 28 (0,0))) (hB : B <= gb) (ho : OwnX 6 42 (sP rawC) w s6 v rs) (hs : B <= s6) (hm : All2 (fun r c => cP (okT B gb v) w (rawC r) c) rs cs) (hne : v.ownBlock ≠ some gb) :
  ArB (w.setCell ⟨gb,0,none⟩ v) B gb v rs cs /\ Kpt [gb] w (w.setCell ⟨gb,0,none⟩ v) := by
 have k2 : Kpt [gb] w (w.setCell ⟨gb,0,none⟩ v) := Kpt.set _ _ _ _ _ (by simp)
 refine ⟨⟨by rw [heap_setCell_same w gb 0 _ _ _ hz]; rfl,hB,(ho.kptS k2 (fun g e => by simp; rintro rfl; exact hne e)).mono (sP.grow _) hs,hm.imp (fun r x h => cP.grow _ _ _ _ _ _ h (fun _ h _ => h) (.of_kpt k2 (fun b hb => by simpa using hb.2.1)) k2.size),hne⟩,k2⟩
theorem ArB.done {w : World} {B gb : Nat} {v : Value} {rs : List (Raw 6)} {cs : List Cls} (h : ArB w B gb v rs cs) : RdX 6 cP (fun b => B <= b) w v cs := by
 obtain ⟨h1,h2,h5,h6,h7⟩ := h
 exact (h5.rd (sP.grow _)).raw (h6.imp (fun r x h => cP.grow _ _ _ _ _ _ h (fun b hb _ => hb.1) (fun _ _ _ => rfl) (Nat.le_refl _)))
theorem OwnX.put6 {T : TypeId} {w : World} {B : Nat} {v : Value} {rs : List (Raw 6)} (h : OwnX 6 T (sP rawC) w B v rs) {i : Nat} {r r' : Raw 6} (hi : rs[i]? = some r) {u0 u1 u2 u3 u4 u5 : Value} (hr' : rawC r' = [u0,u1,u2,u3,u4,u5]) :
  ∃ g cap,v = .slice (some ⟨g,0,none⟩) rs.length cap /\ rs.length <= cap /\ B <= g /\ g < w.heap.size /\ (∀ k,w.frozen? ⟨g,k,none⟩ = false) /\ (∀ k u',(rawC r)[k]? = some u' -> w.cell? ⟨g,i * 6 + k,none⟩ = some u') /\
   OwnX 6 T (sP rawC) ((((((w.setCell ⟨g,i * 6 + 0,none⟩ u0).setCell ⟨g,i * 6 + 1,none⟩ u1).setCell ⟨g,i * 6 + 2,none⟩ u2).setCell ⟨g,i * 6 + 3,none⟩ u3).setCell ⟨g,i * 6 + 4,none⟩ u4).setCell ⟨g,i * 6 + 5,none⟩ u5) B v (rs.set i r') := by
 have hl := (List.getElem?_eq_some_iff.1 hi).1
 obtain ⟨l,hl6,hone⟩ := r
 match l,hl6 with
 | [a0,a1,a2,a3,a4,a5],_ =>
  have ho : ∀ u ∈ [u0,u1,u2,u3,u4,u5],u.oneCell' = true := by rw [<- hr']; exact r'.2.2
  have q0 := ho u0 (by simp)
  have q1 := ho u1 (by simp)
  have q2 := ho u2 (by simp)
  have q3 := ho u3 (by simp)
  have q4 := ho u4 (by simp)
  have q5 := ho u5 (by simp)
  have p0 := hone a0 (by simp)
  have p1 := hone a1 (by simp)
  have p2 := hone a2 (by simp)
  have p3 := hone a3 (by simp)
  have p4 := hone a4 (by simp)
  have p5 := hone a5 (by simp)
  have mk : ∀ b0 b1 b2 b3 b4 b5 : Value,b0.oneCell' = true -> b1.oneCell' = true -> b2.oneCell' = true -> b3.oneCell' = true -> b4.oneCell' = true -> b5.oneCell' = true -> ∃ y : Raw 6,y.1 = [b0,b1,b2,b3,b4,b5] := by
   intro b0 b1 b2 b3 b4 b5 k0 k1 k2 k3 k4 k5
   refine ⟨⟨[b0,b1,b2,b3,b4,b5],rfl,fun u hu => ?_⟩,rfl⟩
   simp only [List.mem_cons,List.not_mem_nil,or_false] at hu
   rcases hu with rfl | rfl | rfl | rfl | rfl | rfl <;> assumption
  obtain ⟨y0,z0⟩ := mk u0 a1 a2 a3 a4 a5 q0 p1 p2 p3 p4 p5
  obtain ⟨y1,z1⟩ := mk u0 u1 a2 a3 a4 a5 q0 q1 p2 p3 p4 p5
  obtain ⟨y2,z2⟩ := mk u0 u1 u2 a3 a4 a5 q0 q1 q2 p3 p4 p5
  obtain ⟨y3,z3⟩ := mk u0 u1 u2 u3 a4 a5 q0 q1 q2 q3 p4 p5
  obtain ⟨y4,z4⟩ := mk u0 u1 u2 u3 u4 a5 q0 q1 q2 q3 q4 p5
  obtain ⟨g,cap,rfl,e1,e2,e3,e4,e6,h1⟩ := h.put1 (j := 0) (y := y0) (u := u0) hi (by decide) (by unfold rawC; rw [z0]; rfl)
  obtain ⟨g1,cap1,t1,-,-,-,-,-,h2⟩ := h1.put1 (i := i) (x := y0) (j := 1) (y := y1) (u := u1) (by simp [hl]) (by decide) (by unfold rawC; rw [z0,z1]; rfl)
  simp only [Value.slice.injEq,Option.some.injEq,Addr.mk.injEq,and_true] at t1
  obtain ⟨rfl,-⟩ := t1
  obtain ⟨g2,cap2,t2,-,-,-,-,-,h3⟩ := h2.put1 (i := i) (x := y1) (j := 2) (y := y2) (u := u2) (by simp [hl]) (by decide) (by unfold rawC; rw [z1,z2]; rfl)
  simp only [Value.slice.injEq,Option.some.injEq,Addr.mk.injEq,and_true] at t2
  obtain ⟨rfl,-⟩ := t2
  obtain ⟨g3,cap3,t3,-,-,-,-,-,h4⟩ := h3.put1 (i := i) (x := y2) (j := 3) (y := y3) (u := u3) (by simp [hl]) (by decide) (by unfold rawC; rw [z2,z3]; rfl)
  simp only [Value.slice.injEq,Option.some.injEq,Addr.mk.injEq,and_true] at t3
  obtain ⟨rfl,-⟩ := t3
  obtain ⟨g4,cap4,t4,-,-,-,-,-,h5⟩ := h4.put1 (i := i) (x := y3) (j := 4) (y := y4) (u := u4) (by simp [hl]) (by decide) (by unfold rawC; rw [z3,z4]; rfl)
  simp only [Value.slice.injEq,Option.some.injEq,Addr.mk.injEq,and_true] at t4
  obtain ⟨rfl,-⟩ := t4
  obtain ⟨g5,cap5,t5,-,-,-,-,-,h6⟩ := h5.put1 (i := i) (x := y4) (j := 5) (y := r') (u := u5) (by simp [hl]) (by decide) (by rw [hr']; unfold rawC; rw [z4]; rfl)
  simp only [Value.slice.injEq,Option.some.injEq,Addr.mk.injEq,and_true] at t5
  obtain ⟨rfl,-⟩ := t5
  simp only [List.set_set] at h6
  exact ⟨g,cap,rfl,e1,e2,e3,e4,e6,h6⟩
def inR (x : Tk) (b : Nat) : Prop := x.2.1 <= b /\ b < x.2.2
theorem all9 {p : Nat -> Prop} (h0 : p 0) (h1 : p 1) (h2 : p 2) (h3 : p 3) (h4 : p 4) (h5 : p 5) (h6 : p 6) (h7 : p 7) (h8 : p 8) : ∀ i,i < 9 -> p i
 | 0,_ => h0
 | 1,_ => h1
 | 2,_ => h2
 | 3,_ => h3
 | 4,_ => h4
 | 5,_ => h5
 | 6,_ => h6
 | 7,_ => h7
 | 8,_ => h8
 | n + 9,h => absurd h (by omega)
theorem all15 {p : Nat -> Prop} (h0 : p 0) (h1 : p 1) (h2 : p 2) (h3 : p 3) (h4 : p 4) (h5 : p 5) (h6 : p 6) (h7 : p 7) (h8 : p 8) (h9 : p 9) (h10 : p 10) (h11 : p 11) (h12 : p 12) (h13 : p 13) (h14 : p 14) : ∀ i,i < 15 -> p i
 | 0,_ => h0
 | 1,_ => h1
 | 2,_ => h2
 | 3,_ => h3
 | 4,_ => h4
 | 5,_ => h5
 | 6,_ => h6
 | 7,_ => h7
 | 8,_ => h8
 | 9,_ => h9
 | 10,_ => h10
 | 11,_ => h11
 | 12,_ => h12
 | 13,_ => h13
 | 14,_ => h14
 | n + 15,h => absurd h (by omega)
theorem OwnX.row {α : Type} {sz : Nat} {T : TypeId} {P : Pv α} {w : World} {B : Nat} {v : Value} {xs : List α} (h : OwnX sz T P w B v xs) (hn : xs.length ≠ 0) : ∃ g cap,v = .slice (some ⟨g,0,none⟩) xs.length cap /\ xs.length <= cap /\ B <= g /\ g < w.heap.size := by
 obtain ⟨cs,h1,_⟩ := h
 rcases h1.2 with ⟨_,h0⟩ | ⟨g,cap,cur,rfl,hb,hg,hle,_⟩
 ·exact absurd h0 hn
 ·exact ⟨g,cap,rfl,hle,hb,(Array.getElem?_eq_some_iff.1 hg).1⟩
def Prog {α : Type} (x : Nat) (l0 l : List α) : Prop := l.length = 13 /\ ∀ i,i < 13 -> l[i]? = if i < x ∨ 12 - i < x then l0[12 - i]? else l0[i]?
theorem Prog.start {α : Type} {l : List α} (h : l.length = 13) : Prog 0 l l := ⟨h,fun i hi => by rw [if_neg (by omega)]⟩
theorem Prog.next {α : Type} {x : Nat} {l0 l : List α} {a b : α} (h : Prog x l0 l) (hx : x < 6) (ha : l[x]? = some a) (hb : l[12 - x]? = some b) : Prog (x + 1) l0 ((l.set x b).set (12 - x) a) := by
 obtain ⟨h1,h2⟩ := h
 refine ⟨by simp [h1],fun i hi => ?_⟩
 have e1 := h2 x (by omega)
 have e2 := h2 (12 - x) (by omega)
 rw [if_neg (by omega)] at e1 e2
 rw [List.getElem?_set]
 by_cases e : 12 - x = i
 ·rw [if_pos e,if_pos (by simp [h1]; omega),if_pos (by omega),<- ha,e1,<- e]
  congr 1
  omega
 ·rw [if_neg e,List.getElem?_set]
  by_cases e' : x = i
  ·rw [if_pos e',if_pos (by omega),if_pos (by omega),<- hb,e2,e']
  ·rw [if_neg e',h2 i hi]
   by_cases h : i < x ∨ 12 - i < x
   ·rw [if_pos h,if_pos (by omega)]
   ·rw [if_neg h,if_neg (by omega)]
theorem Prog.done {α : Type} {l0 l : List α} (h : Prog 6 l0 l) (hl : l0.length = 13) : l = l0.reverse := by
 obtain ⟨h1,h2⟩ := h
 refine List.ext_getElem? (fun i => ?_)
 rcases Nat.lt_or_ge i 13 with hi | hi
 ·rw [h2 i hi,List.getElem?_reverse (by omega),hl]
  by_cases e : i = 6
  ·subst e; rfl
  ·rw [if_pos (by omega)]
 ·rw [List.getElem?_eq_none (by omega),List.getElem?_eq_none (by simp; omega)]
theorem cls_at {ok : Nat -> Prop} {w : World} : ∀ {rs : List (Raw 6)} {cs : List Cls},All2 (fun r c => cP ok w (rawC r) c) rs cs -> ∀ (i : Nat) r,rs[i]? = some r -> ∃ n s p1 n1 c1 k p2 n2 c2 p3 n3 c3,rawC r = [.string n,.string s,.slice p1 n1 c1,.int .i64 k,.slice p2 n2 c2,.slice p3 n3 c3]
 | [],[],_,i,r,e => by simp at e
 | a :: xs,b :: ys,h,0,r,e => by
  simp only [List.getElem?_cons_zero,Option.some.injEq] at e
  subst e
  obtain ⟨vi,vf,vm,e,h1,h2,h3⟩ := h.1
  obtain ⟨p1,c1,rfl,-⟩ := h1
  obtain ⟨p2,c2,rfl,-⟩ := h2
  obtain ⟨p3,c3,rfl,-⟩ := h3
  exact ⟨_,_,_,_,_,_,_,_,_,_,_,_,e⟩
 | a :: xs,b :: ys,h,i + 1,r,e => cls_at h.2 i r (by simpa using e)
 | [],_ :: _,h,_,_,_ => h.elim
 | _ :: _,[],h,_,_,_ => h.elim
theorem kset6 (w : World) (g o0 o1 o2 o3 o4 o5 : Nat) (v0 v1 v2 v3 v4 v5 : Value) : Kpt [g] w ((((((w.setCell ⟨g,o0,none⟩ v0).setCell ⟨g,o1,none⟩ v1).setCell ⟨g,o2,none⟩ v2).setCell ⟨g,o3,none⟩ v3).setCell ⟨g,o4,none⟩ v4).setCell ⟨g,o5,none⟩ v5) :=
 ((((((Kpt.set [g] w g o0 v0 (by simp)).trans (Kpt.set [g] _ g o1 v1 (by simp)) (fun _ h => .inl h)).trans (Kpt.set [g] _ g o2 v2 (by simp)) (fun _ h => .inl h)).trans (Kpt.set [g] _ g o3 v3 (by simp)) (fun _ h => .inl h)).trans (Kpt.set [g] _ g o4 v4 (by simp)) (fun _ h => .inl h)).trans (Kpt.set [g] _ g o5 v5 (by simp)) (fun _ h => .inl h))
theorem ClB.fill {w : World} {B tb sm : Nat} {n s : ByteArray} {vi vf : Value} {k : Int} {is : List ByteArray} {fs : List Fld} {r : Raw 9} {m : Mth} {okI okF okM : Nat -> Prop}
  (hz : w.heap[tb]? = some (.cells #[.string ⟨#[]⟩,.string ⟨#[]⟩,.slice none 0 0,.int .i64 0,.slice none 0 0,.slice none 0 0] 42 (0,0))) (hB : B <= tb) (hi : RdX 1 (sP strC) okI w vi is) (hf : RdX 4 (sP fldC) okF w vf fs) (ho : OwnX 9 49 (sP rawC) w sm (.slice (some ⟨sm,0,none⟩) 1 1) [r]) (hm : mP okM w (rawC r) m)
  (hsm : B <= sm) (hne : sm ≠ tb) (oI : ∀ b,okI b -> B <= b /\ b ≠ tb /\ b ≠ sm) (oF : ∀ b,okF b -> B <= b /\ b ≠ tb /\ b ≠ sm) (oM : ∀ b,okM b -> B <= b /\ b ≠ tb /\ b ≠ sm) {w' : World} (hw : w' = ((((((w.setCell ⟨tb,0,none⟩ (.string n)).setCell ⟨tb,1,none⟩ (.string s)).setCell ⟨tb,2,none⟩ vi).setCell ⟨tb,3,none⟩ (.int .i64 k)).setCell ⟨tb,4,none⟩ vf).setCell ⟨tb,5,none⟩ (.slice (some ⟨sm,0,none⟩) 1 1))) :
  ClB w' B tb vi vf (.slice (some ⟨sm,0,none⟩) 1 1) [r] ⟨n,s,is,k,fs,[m]⟩ /\ Kpt [tb] w w' := by
 obtain ⟨h1,h2⟩ := set6 (v0 := .string n) (v1 := .string s) (v2 := vi) (v3 := .int .i64 k) (v4 := vf) (v5 := .slice (some ⟨sm,0,none⟩) 1 1) hz
 rw [<- hw] at h1 h2
 have kk : ∀ {ok : Nat -> Prop},(∀ b,ok b -> B <= b /\ b ≠ tb /\ b ≠ sm) -> Keeps ok w w' := fun h => .of_kpt h2 (fun b hb => by simpa using (h b hb).2.1)
 have oo : ∀ {ok : Nat -> Prop},(∀ b,ok b -> B <= b /\ b ≠ tb /\ b ≠ sm) -> ∀ b,ok b -> b < w.heap.size -> okT B tb (.slice (some ⟨sm,0,none⟩) 1 1) b := fun h b hb _ => ⟨(h b hb).1,(h b hb).2.1,by simpa [Value.ownBlock] using Ne.symm (h b hb).2.2⟩
 exact ⟨⟨h1,hB,hi.step (sP.grow _) (oo oI) (kk oI) h2.size,hf.step (sP.grow _) (oo oF) (kk oF) h2.size,(ho.kptS h2 (fun g e => by simp [Value.ownBlock] at e; subst e; simpa using hne)).mono (sP.grow _) hsm,⟨mP.grow _ _ _ _ _ _ hm (oo oM) (kk oM) h2.size,trivial⟩,by simpa [Value.ownBlock] using hne⟩,h2⟩
end Go.Proofs.YtfpeakkbbfnhcaaGreat.A
namespace Go.Proofs.YtfpeakkbbfnhcaaGreat.A
open Go.RowKit Go.Proofs.YtfpeakkbbfnhcaaGreat.D Go.Proofs.YtfpeakkbbfnhcaaGreat.O
def OwnR {α : Type} (sz : Nat) (T : TypeId) (c : α -> List Value) (ok : Nat -> Prop) (w : World) (v : Value) (xs : List α) : Prop := OwnX sz T (sP c) w 0 v xs /\ ∀ g,v.ownBlock = some g -> ok g
theorem OwnX.ownR {α : Type} {sz : Nat} {T : TypeId} {c : α -> List Value} {w : World} {B : Nat} {v : Value} {xs : List α} (h : OwnX sz T (sP c) w B v xs) : OwnR sz T c (fun b => B <= b) w v xs :=
 ⟨h.mono (sP.grow _) (Nat.zero_le _),fun g e => (h.lt g e).1⟩
theorem OwnR.step {α : Type} {sz : Nat} {T : TypeId} {c : α -> List Value} {ok ok' : Nat -> Prop} {w w' : World} {v : Value} {xs : List α} (h : OwnR sz T c ok w v xs) (ho : ∀ b,ok b -> b < w.heap.size -> ok' b) (hk : Keeps ok w w') : OwnR sz T c ok' w' v xs := by
 obtain ⟨⟨cs,h1,h2⟩,h3⟩ := h
 have hlt := World.ownsRow.lt h1
 refine ⟨⟨cs,⟨h1.1,?_⟩,h2⟩,fun g e => ho g (h3 g e) (hlt g e).2⟩
 rcases h1.2 with hn | ⟨g,cap,cur,rfl,hb,hg,rest⟩
 ·exact .inl hn
 ·exact .inr ⟨g,cap,cur,rfl,hb,by rw [hk g (h3 g rfl) (hlt g rfl).2]; exact hg,rest⟩
theorem OwnR.rd {α : Type} {sz : Nat} {T : TypeId} {c : α -> List Value} {ok : Nat -> Prop} {w : World} {v : Value} {xs : List α} (h : OwnR sz T c ok w v xs) : RdX sz (sP c) ok w v xs := by
 obtain ⟨h,h3⟩ := h
 obtain ⟨p,cap,e,h1,h2,h4⟩ := h.rd (sP.grow c)
 subst e
 refine ⟨p,cap,rfl,h1,h2,?_⟩
 rcases h4 with h4 | ⟨b,off,rfl,-,hlt,hc⟩
 ·exact .inl h4
 ·by_cases hx : xs = []
  ·exact .inl hx
  ·obtain ⟨g,cap',e,-⟩ := h.row (fun e => hx (List.eq_nil_of_length_eq_zero e))
   simp only [Value.slice.injEq,Option.some.injEq,Addr.mk.injEq,and_true] at e
   obtain ⟨⟨rfl,rfl⟩,-⟩ := e
   exact .inr ⟨_,_,rfl,h3 _ rfl,hlt,hc⟩
def mO : Pv Mth := fun ok w vs m => ∃ vp vc vh,vs = [.string m.name,vp,.int .i64 m.ret.1,.string m.ret.2,.bool m.st,.bool m.ab,.int .i64 m.locals,vc,vh] /\
 OwnR 2 45 tyC ok w vp m.params /\ OwnR 7 59 insC ok w vc m.code /\ OwnR 4 68 hndC ok w vh m.hs
theorem mO.grow : MonoG mO := by
 intro ok ok' w w' vs m h ho hk hs
 obtain ⟨vp,vc,vh,e,h1,h2,h3⟩ := h
 exact ⟨vp,vc,vh,e,h1.step ho hk,h2.step ho hk,h3.step ho hk⟩
theorem mO.rd {ok : Nat -> Prop} {w : World} {vs : List Value} {m : Mth} (h : mO ok w vs m) : mP ok w vs m := by
 obtain ⟨vp,vc,vh,e,h1,h2,h3⟩ := h
 exact ⟨vp,vc,vh,e,h1.rd,h2.rd,h3.rd⟩
def cO : Pv Cls := fun ok w vs c => ∃ vi vf vm,vs = [.string c.name,.string c.super,vi,.int .i64 c.kind,vf,vm] /\
 OwnR 1 9 strC ok w vi c.ifaces /\ OwnR 4 87 fldC ok w vf c.fields /\ ∃ rs : List (Raw 9),OwnR 9 49 rawC ok w vm rs /\ All2 (fun r m => mO ok w (rawC r) m) rs c.methods
theorem cO.grow : MonoG cO := by
 intro ok ok' w w' vs c h ho hk hs
 obtain ⟨vi,vf,vm,e,h1,h2,rs,h3,h4⟩ := h
 exact ⟨vi,vf,vm,e,h1.step ho hk,h2.step ho hk,rs,h3.step ho hk,h4.imp (fun r m h => mO.grow _ _ _ _ _ _ h ho hk hs)⟩
theorem cO.rd {ok : Nat -> Prop} {w : World} {vs : List Value} {c : Cls} (h : cO ok w vs c) : cP ok w vs c := by
 obtain ⟨vi,vf,vm,e,h1,h2,rs,h3,h4⟩ := h
 exact ⟨vi,vf,vm,e,h1.rd,h2.rd,h3.rd.raw (h4.imp (fun r m h => h.rd))⟩
def MAnsO (m : Mth) (w : World) (e : Ending) (w' : World) : Prop :=
 ∃ pp np cp pc nc cc ph nh ch,e = .returned (.agg #[.string m.name,.slice pp np cp,.int .i64 m.ret.1,.string m.ret.2,.bool m.st,.bool m.ab,.int .i64 m.locals,.slice pc nc cc,.slice ph nh ch]) /\
  mO (fun b => w.heap.size <= b) w' [.string m.name,.slice pp np cp,.int .i64 m.ret.1,.string m.ret.2,.bool m.st,.bool m.ab,.int .i64 m.locals,.slice pc nc cc,.slice ph nh ch] m /\ Below w.heap.size w w'
def CAnsO (c : Cls) (w : World) (e : Ending) (w' : World) : Prop :=
 ∃ pi ni ci pf nf cf pm nm cm,e = .returned (.agg #[.string c.name,.string c.super,.slice pi ni ci,.int .i64 c.kind,.slice pf nf cf,.slice pm nm cm]) /\
  cO (fun b => w.heap.size <= b) w' [.string c.name,.string c.super,.slice pi ni ci,.int .i64 c.kind,.slice pf nf cf,.slice pm nm cm] c /\ Below w.heap.size w w'
theorem shape_mO : Shape mO 9 := fun ok w vs m h => shape_mth ok w vs m h.rd
theorem shape_cO : Shape cO 6 := fun ok w vs c h => shape_cls ok w vs c h.rd
end Go.Proofs.YtfpeakkbbfnhcaaGreat.A
