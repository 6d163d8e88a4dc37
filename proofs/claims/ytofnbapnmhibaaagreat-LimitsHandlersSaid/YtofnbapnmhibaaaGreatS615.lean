/- Texts that the proof is made of, joined. No condition. -/
import Derived.Test.YtofnbapnmhibaaaGreatS60
import Derived.Deep.RegionHeld
set_option linter.unusedVariables false
set_option linter.unusedSimpArgs false
set_option maxRecDepth 100000
set_option maxHeartbeats 16000000
namespace Go.Proofs.YtofnbapnmhibaaaGreat.A
open Go Go.RowKit
abbrev Tk : Type := Value × Nat × Nat
def zT : Tk := (undef,0,0)
def restr (C : List Nat) (g : Nat -> Tk) (k : Nat) : Tk := match C.contains k with | true => g k | false => zT
def updT (g : Nat -> Tk) (i : Nat) (x : Tk) (k : Nat) : Tk := if k = i then x else g k
def fillT : List Nat -> Nat -> (Nat -> Tk) -> Array Value -> Array Value
 | [],_,_,t => t
 | d :: ds,i,g,t => fillT ds (i + 1) g (t.setIfInBounds d (g i).1)
def evL (O : List (Nat × Value)) (L : List (Nat × Nat)) (g : Nat -> Tk) : Operand -> Value
 | .tmp t => match L.find? (fun x => x.1 == t) with
  | some x => (g x.2).1
  | none => match O.find? (fun x => x.1 == t) with
   | some x => x.2
   | none => undef
 | .const v => v
 | .global n => .pointer (some ⟨n,0,none⟩)
 | .func f => .func (.func f) #[] #[]
def Yld (P : Program) (ev : Operand -> Value) (o : Oper) (w : World) (R : Value -> World -> Prop) : Prop :=
 match (execOp ev o).run P w with
 | .ok (.value v) w' => R v w'
 | .ok (.enter f args) w' => Calls P f args w' fun e w'' => ∃ v,e = .returned v /\ R v w''
 | _ => False
def lstA (n m : Nat) : Array Bool := (List.replicate n true ++ List.replicate m false).toArray
def waits (o : Oper) (j : Nat) : Bool := o.after.toList.any fun e => e.on == j && Region.binds .any e
theorem waits_spec {o : Oper} {j : Nat} (h : waits o j = true) : ∃ e ∈ o.after,Region.binds .any e = true /\ e.on = j := by
 unfold waits at h
 obtain ⟨e,he,h⟩ := List.any_eq_true.1 h
 simp only [Bool.and_eq_true,beq_iff_eq] at h
 exact ⟨e,by simpa using he,h.2,h.1⟩
def chkOp (ops : Array Oper) (n : Nat) (ds : List Nat) (keys : List Nat) (L : List (Nat × Nat)) (C : List Nat) (i : Nat) : Bool :=
 match ops[i]? with
 | none => false
 | some o => o.guard.isNone && o.dst == ds[i]? && L.all (fun x => decide (x.2 < n) && ds[x.2]? == some x.1 && waits o x.2) &&
  o.op.operands.all (fun x => match x with | .tmp t => L.any (fun y => y.1 == t) || keys.contains t | _ => true) &&
  C.all (fun k => k == i || waits o k) && o.after.all (fun e => !Region.binds .any e || decide (e.on < i))
def waitsAt (ops : Array Oper) (k i : Nat) : Bool := match ops[k]? with | some o => waits o i | none => false
def chkAll (ops : Array Oper) (n mm m : Nat) (ds keys : List Nat) (L : Nat -> List (Nat × Nat)) (C : Nat -> List Nat) : Bool :=
 ops.size == n + (mm + 1) && Region.noSelect ops && ds.length == n && decide ds.Nodup && ds.all (fun d => decide (d < m)) && keys.all (fun t => !ds.contains t) &&
  (List.range n).all (fun i => chkOp ops n ds keys (L i) (C i) i) && (List.range n).all (fun i => (List.range (n + 1)).any (fun k => decide (i < k) && waitsAt ops k i)) &&
  (List.range mm).all (fun j => (List.range (n + 1 + j)).any (fun k => decide (n <= k) && waitsAt ops (n + 1 + j) k))
section
variable {P : Program} {ops : Array Oper} {Q : Exit -> Act -> World -> Prop}
structure RG (ops : Array Oper) (n : Nat) (ds : List Nat) (C : Nat -> List Nat) (F : Nat -> (Nat -> Tk) -> World -> Prop) (a0 : Act) (w0 : World) (listed : Array Bool) (g : Nat -> Tk) (a : Act) (w : World) : Prop where
 lsz : listed.size = ops.size
 lstn : ∀ j,n <= j -> listed.getD j false = false
 closed : ∀ i o j,listed.getD i false = true -> ops[i]? = some o -> waits o j = true -> listed.getD j false = true
 below : Below w0.heap.size w0 w
 defers : a.defers = a0.defers
 size : a.tmps.size = a0.tmps.size
 old : ∀ k,(∀ i,i < n -> listed.getD i false = true -> ds[i]? ≠ some k) -> a.tmps[k]? = a0.tmps[k]?
 new : ∀ i d,i < n -> listed.getD i false = true -> ds[i]? = some d -> a.tmps[d]? = some (g i).1
 fact : ∀ i,i < n -> listed.getD i false = true -> F i (restr (C i) g) w
 rng : ∀ i,i < n -> listed.getD i false = true -> w0.heap.size <= (g i).2.1 /\ (g i).2.1 <= (g i).2.2 /\ (g i).2.2 <= w.heap.size
 disj : ∀ i j,i < n -> j < n -> i ≠ j -> listed.getD i false = true -> listed.getD j false = true -> (g i).2.2 <= (g j).2.1 ∨ (g j).2.2 <= (g i).2.1
theorem countP_lt {p q : Nat -> Bool} {i : Nat} (hle : ∀ x,q x = true -> p x = true) (hp : p i = true) (hq : q i = false) : ∀ {l : List Nat},i ∈ l -> l.countP q < l.countP p
 | x :: l,h => by
  have hm : l.countP q <= l.countP p := List.countP_mono_left (fun y _ hy => hle y hy)
  rw [List.countP_cons,List.countP_cons]
  rcases List.mem_cons.1 h with e | h'
  ·subst e
   rw [hp,hq]
   simp
   omega
  ·have := countP_lt hle hp hq h'
   have h2 : (if q x = true then 1 else 0) <= (if p x = true then 1 else 0) := by
    cases hqx : q x
    ·simp
    ·rw [hle x hqx]; simp
   omega
theorem fillT_old : ∀ (ds : List Nat) (i : Nat) (g : Nat -> Tk) (t : Array Value) (k : Nat),k ∉ ds -> (fillT ds i g t)[k]? = t[k]?
 | [],_,_,_,_,_ => rfl
 | d :: ds,i,g,t,k,h => by
  unfold fillT
  rw [fillT_old ds _ _ _ _ (fun hk => h (List.mem_cons_of_mem _ hk)),Array.getElem?_setIfInBounds_ne]
  rintro rfl
  exact h (List.mem_cons_self ..)
theorem fillT_new : ∀ (ds : List Nat) (i : Nat) (g : Nat -> Tk) (t : Array Value) (j k : Nat),ds.Nodup -> ds[j]? = some k -> k < t.size -> (fillT ds i g t)[k]? = some (g (i + j)).1
 | [],_,_,_,j,k,_,h,_ => by simp at h
 | d :: ds,i,g,t,0,k,hn,h,hk => by
  simp only [List.getElem?_cons_zero,Option.some.injEq] at h
  subst h
  unfold fillT
  rw [fillT_old ds _ _ _ _ (List.nodup_cons.1 hn).1,Nat.add_zero]
  simp [hk]
 | d :: ds,i,g,t,j + 1,k,hn,h,hk => by
  simp only [List.getElem?_cons_succ] at h
  unfold fillT
  rw [fillT_new ds (i + 1) g _ j k (List.nodup_cons.1 hn).2 h (by simpa using hk)]
  congr 3
  omega
theorem restr_congr {C : List Nat} {g g' : Nat -> Tk} (h : ∀ k,k ∈ C -> g k = g' k) : restr C g = restr C g' := by
 funext k
 unfold restr
 cases hc : C.contains k
 ·rfl
 ·exact h k (by simpa using hc)
theorem rg_run {a0 : Act} {w0 : World} {n mm : Nat} {ds : List Nat} {O : List (Nat × Value)} {L : Nat -> List (Nat × Nat)} {C : Nat -> List Nat} {F : Nat -> (Nat -> Tk) -> World -> Prop}
  (chk : chkAll ops n mm a0.tmps.size ds (O.map (·.1)) L C = true) (hO : ∀ x ∈ O,a0.tmps[x.1]? = some x.2)
  (mono : ∀ i,i < n -> ∀ g w w',Below w.heap.size w w' -> (∀ k,k ∈ C i -> (g k).2.2 <= w.heap.size) -> F i (restr (C i) g) w -> F i (restr (C i) g) w')
  (step : ∀ i,i < n -> ∀ o,ops[i]? = some o -> ∀ g w,Below w0.heap.size w0 w -> (∀ j,j < n -> waits o j = true -> F j (restr (C j) g) w) ->
   (∀ j,j < n -> waits o j = true -> w0.heap.size <= (g j).2.1 /\ (g j).2.1 <= (g j).2.2 /\ (g j).2.2 <= w.heap.size) -> (∀ j k,j < n -> k < n -> j ≠ k -> waits o j = true -> waits o k = true -> (g j).2.2 <= (g k).2.1 ∨ (g k).2.2 <= (g j).2.1) ->
   Yld P (evL O (L i) g) o w fun v w' => Below w.heap.size w w' /\ F i (restr (C i) (updT g i (v,w.heap.size,w'.heap.size))) w')
  (last : ∀ fuel g w,Below w0.heap.size w0 w -> (∀ j,j < n -> F j (restr (C j) g) w) -> (∀ j,j < n -> w0.heap.size <= (g j).2.1 /\ (g j).2.1 <= (g j).2.2 /\ (g j).2.2 <= w.heap.size) ->
   (∀ j k,j < n -> k < n -> j ≠ k -> (g j).2.2 <= (g k).2.1 ∨ (g k).2.2 <= (g j).2.1) -> wpAny P .any ops Q (fuel + (mm + 1)) (lstA n (mm + 1)) ⟨fillT ds 0 g a0.tmps,a0.defers⟩ w) :
  ∀ (fuel : Nat) (listed : Array Bool) (g : Nat -> Tk) (a : Act) (w : World),RG ops n ds C F a0 w0 listed g a w -> (List.range n).countP (fun i => !listed.getD i false) + (mm + 1) <= fuel -> wpAny P .any ops Q fuel listed a w := by
 unfold chkAll at chk
 simp only [Bool.and_eq_true,beq_iff_eq,decide_eq_true_eq,List.all_eq_true,List.mem_range] at chk
 obtain ⟨⟨⟨⟨⟨⟨⟨⟨hsz,hsel⟩,hdl⟩,hnd⟩,hdm⟩,hkey⟩,hops⟩,hlast⟩,hlate⟩ := chk
 intro fuel
 induction fuel with
 | zero => intro listed g a w _ h; omega
 | succ fuel ih =>
  intro listed g a w R hf
  by_cases hall : ∀ i,i < n -> listed.getD i false = true
  ·have ha : a = ⟨fillT ds 0 g a0.tmps,a0.defers⟩ := by
    obtain ⟨at',ad⟩ := a
    have h1 : ad = a0.defers := R.defers
    subst h1
    congr 1
    refine Array.ext_getElem? (fun k => ?_)
    by_cases hk : k ∈ ds
    ·obtain ⟨j,hj⟩ := List.mem_iff_getElem?.1 hk
     have hjn : j < n := by rw [<- hdl]; exact (List.getElem?_eq_some_iff.1 hj).1
     rw [fillT_new ds 0 g _ j k hnd hj (hdm k hk),Nat.zero_add]
     exact R.new j k hjn (hall j hjn) hj
    ·rw [fillT_old ds _ _ _ _ hk]
     exact R.old k (fun i _ _ e => hk (List.mem_iff_getElem?.2 ⟨i,e⟩))
   have hl : listed = lstA n (mm + 1) := by
    refine Array.ext_getElem? (fun k => ?_)
    unfold lstA
    have h1 := R.lsz
    rcases Nat.lt_or_ge k n with h | h
    ·have h2 := hall k h
     have h3 : k < listed.size := by omega
     have h4 : listed[k]? = some true := by
      rw [Array.getD_eq_getD_getElem?,Array.getElem?_eq_getElem h3] at h2
      rw [Array.getElem?_eq_getElem h3]
      simpa using h2
     rw [h4,List.getElem?_toArray,List.getElem?_append_left (by simpa using h),List.getElem?_replicate,if_pos h]
    ·have h2 := R.lstn k h
     rcases Nat.lt_or_ge k listed.size with h3 | h3
     ·have h4 : listed[k]? = some false := by
       rw [Array.getD_eq_getD_getElem?,Array.getElem?_eq_getElem h3] at h2
       rw [Array.getElem?_eq_getElem h3]
       simpa using h2
      rw [h4,List.getElem?_toArray,List.getElem?_append_right (by simpa using h),List.getElem?_replicate,if_pos (by simp; omega)]
     ·rw [Array.getElem?_eq_none h3,Array.getElem?_eq_none (by simp; omega)]
   obtain ⟨f',hf'⟩ : ∃ f',fuel + 1 = f' + (mm + 1) := ⟨fuel - mm,by omega⟩
   rw [ha,hl,hf']
   exact last f' g w R.below (fun j hj => R.fact j hj (hall j hj)) (fun j hj => R.rng j hj (hall j hj)) (fun j k hj hk hne => R.disj j k hj hk hne (hall j hj) (hall k hk))
  ·-- one that may come up next
   have hex : ∃ i,i < n /\ listed.getD i false = false /\ ∀ j,j < i -> listed.getD j false = true := by
    have : ∀ m,m <= n -> (∃ i,i < n /\ listed.getD i false = false /\ ∀ j,j < i -> listed.getD j false = true) ∨ ∀ j,j < m -> listed.getD j false = true := by
     intro m
     induction m with
     | zero => intro _; exact .inr (fun j h => absurd h (Nat.not_lt_zero j))
     | succ m ihm =>
      intro hm
      rcases ihm (by omega) with h | h
      ·exact .inl h
      ·cases hc : listed.getD m false
       ·exact .inl ⟨m,by omega,hc,h⟩
       ·refine .inr (fun j hj => ?_)
        by_cases e : j = m
        ·rw [e]; exact hc
        ·exact h j (by omega)
    rcases this n (Nat.le_refl _) with h | h
    ·exact h
    ·exact absurd h hall
   have key : ∀ i,i < ops.size -> listed.getD i true = listed.getD i false := fun i hi => by
    simp [Array.getD,R.lsz,hi]
   have hready : Region.ready .any ops listed ≠ [] := by
    obtain ⟨i,hi,hli,hlt⟩ := hex
    have hc := hops i hi
    unfold chkOp at hc
    cases ho : ops[i]? with
    | none => rw [ho] at hc; simp at hc
    | some o =>
     rw [ho] at hc
     simp only [Bool.and_eq_true] at hc
     have hb := Array.all_eq_true_iff_forall_mem.1 hc.2
     intro e
     have hm : i ∈ Region.ready .any ops listed := mem_ready.2 ⟨by rw [key i (by omega)]; exact hli,o,ho,fun e he hbd => by
      have := hb e he
      rw [hbd] at this
      simp at this
      exact hlt _ this⟩
     rw [e] at hm
     cases hm
   refine ⟨fun h => absurd h hready,fun i hi => ?_⟩
   obtain ⟨hli,o,ho,haf⟩ := mem_ready.1 hi
   have hio : i < ops.size := (Array.getElem?_eq_some_iff.1 ho).1
   rw [key i hio] at hli
   have hwt : ∀ j,waits o j = true -> listed.getD j false = true := fun j hj => by
    obtain ⟨e,he,hb,rfl⟩ := waits_spec hj
    exact haf e he hb
   have hin : i < n := by
    rcases Nat.lt_or_ge i n with h | h
    ·exact h
    ·exfalso
     rcases Nat.lt_or_ge n i with h' | h'
     ·obtain ⟨j,rfl⟩ : ∃ j,i = n + 1 + j := ⟨i - n - 1,by omega⟩
      have h2 := hlate j (by omega)
      obtain ⟨k,hk,h3⟩ := List.any_eq_true.1 h2
      simp only [Bool.and_eq_true,decide_eq_true_eq] at h3
      unfold waitsAt at h3
      rw [ho] at h3
      have h4 := hwt k h3.2
      rw [R.lstn k h3.1] at h4
      cases h4
     ·have e : i = n := by omega
      subst e
      have hdown : ∀ d,∀ j,j < i -> i <= j + d + 1 -> listed.getD j false = true := by
       intro d
       induction d with
       | zero =>
        intro j hj hjd
        obtain ⟨k,hk,h3⟩ := List.any_eq_true.1 (hlast j hj)
        simp only [Bool.and_eq_true,decide_eq_true_eq,List.mem_range] at h3 hk
        have e : k = i := by omega
        subst e
        have h4 := h3.2
        unfold waitsAt at h4
        rw [ho] at h4
        exact hwt j h4
       | succ d ihd =>
        intro j hj hjd
        obtain ⟨k,hk,h3⟩ := List.any_eq_true.1 (hlast j hj)
        simp only [Bool.and_eq_true,decide_eq_true_eq,List.mem_range] at h3 hk
        have h4 := h3.2
        unfold waitsAt at h4
        by_cases e : k = i
        ·subst e
         rw [ho] at h4
         exact hwt j h4
        ·cases hok : ops[k]? with
         | none => rw [hok] at h4; cases h4
         | some ok =>
          rw [hok] at h4
          exact R.closed k ok j (ihd k (by omega) (by omega)) hok h4
      exact hall (fun j hj => hdown i j hj (by omega))
   have hc := hops i hin
   unfold chkOp at hc
   rw [ho] at hc
   simp only [Bool.and_eq_true,beq_iff_eq,List.all_eq_true,decide_eq_true_eq] at hc
   obtain ⟨⟨⟨⟨⟨hg,hd⟩,hL⟩,hopr⟩,hC⟩,-⟩ := hc
   have hev : execOp a.eval o = execOp (evL O (L i) g) o := by
    refine execOp_congr o (fun cs b => Region.noSelect_spec hsel i o cs b ho) (fun x hx => ?_)
    have hx2 := Array.all_eq_true_iff_forall_mem.1 hopr x hx
    cases x with
    | const v => rfl
    | global v => rfl
    | func v => rfl
    | tmp t =>
     show a.tmps.getD t undef = evL O (L i) g (.tmp t)
     cases hfd : (L i).find? (fun x => x.1 == t) with
     | some y =>
      have hy1 := List.mem_of_find?_eq_some hfd
      have hy2 := List.find?_some hfd
      simp only [beq_iff_eq] at hy2
      obtain ⟨⟨h1,h2⟩,h3⟩ := hL y hy1
      have := R.new y.2 y.1 h1 (hwt _ h3) h2
      rw [hy2] at this
      simp only [evL,hfd]
      simp [Array.getD_eq_getD_getElem?,this]
     | none =>
      have hnL : (L i).any (fun y => y.1 == t) = false := by
       rw [List.any_eq_false]
       intro y hy
       have := List.find?_eq_none.1 hfd y hy
       simpa using this
      simp only [hnL,Bool.false_or] at hx2
      cases hfo : O.find? (fun x => x.1 == t) with
      | some y =>
       have hy1 := List.mem_of_find?_eq_some hfo
       have hy2 := List.find?_some hfo
       simp only [beq_iff_eq] at hy2
       have hno : t ∉ ds := by
        have := hkey y.1 (List.mem_map.2 ⟨y,hy1,rfl⟩)
        rw [hy2] at this
        simpa using this
       have := R.old t (fun j _ _ e => hno (List.mem_iff_getElem?.2 ⟨j,e⟩))
       have hoy := hO y hy1
       rw [hy2] at hoy
       rw [hoy] at this
       simp only [evL,hfd,hfo]
       simp [Array.getD_eq_getD_getElem?,this]
      | none =>
       exfalso
       have := List.find?_eq_none.1 hfo
       have hk : t ∈ O.map (·.1) := by simpa using hx2
       obtain ⟨y,hy,rfl⟩ := List.mem_map.1 hk
       exact this y hy (by simp)
   have hY := step i hin o ho g w R.below (fun j hj hw => R.fact j hj (hwt j hw)) (fun j hj hw => R.rng j hj (hwt j hw)) (fun j k hj hk hne h1 h2 => R.disj j k hj hk hne (hwt j h1) (hwt k h2))
   have hnext : ∀ v w',Below w.heap.size w w' -> F i (restr (C i) (updT g i (v,w.heap.size,w'.heap.size))) w' -> wpAny P .any ops Q fuel (listed.setIfInBounds i true) (a.put o.dst v) w' := by
    intro v w' hb hF
    have hdi : ds[i]? = some (ds[i]'(by omega)) := List.getElem?_eq_getElem (by omega)
    have hl1 : ∀ j,(listed.setIfInBounds i true).getD j false = true ↔ j = i ∨ listed.getD j false = true := fun j => by
     by_cases e : i = j
     ·subst e
      simp [Array.getD_eq_getD_getElem?,R.lsz,hio]
     ·rw [getD_set_ne false e]
      simp [Ne.symm e]
    have hu : ∀ j,j ≠ i -> updT g i (v,w.heap.size,w'.heap.size) j = g j := fun j hj => by unfold updT; rw [if_neg hj]
    have hui : updT g i (v,w.heap.size,w'.heap.size) i = (v,w.heap.size,w'.heap.size) := by unfold updT; rw [if_pos rfl]
    refine ih _ (updT g i (v,w.heap.size,w'.heap.size)) _ _ ⟨by simp [R.lsz],fun j hj => by (rw [getD_set_ne false (by omega : i ≠ j)]; exact R.lstn j hj),?_,R.below.trans (hb.mono R.below.size),?_,?_,?_,?_,?_,?_,?_⟩ ?_
    ·intro j oj k hj hoj hk
     rw [hl1] at hj ⊢
     rcases hj with rfl | hj
     ·rw [ho] at hoj; cases hoj; exact .inr (hwt k hk)
     ·exact .inr (R.closed j oj k hj hoj hk)
    ·rw [hd,hdi]; exact R.defers
    ·rw [hd,hdi]; simp [Act.put,R.size]
    ·intro k hk
     have h1 : ds[i]'(by omega) ≠ k := fun e => hk i hin ((hl1 i).2 (.inl rfl)) (by rw [hdi,e])
     rw [hd,hdi]
     simp only [Act.put,Array.getElem?_setIfInBounds_ne h1]
     exact R.old k (fun j hj hl => hk j hj ((hl1 j).2 (.inr hl)))
    ·intro j d hj hl hdj
     by_cases e : j = i
     ·subst e
      rw [hui,hd,hdj]
      have : d < a.tmps.size := by rw [R.size]; exact hdm d (List.mem_iff_getElem?.2 ⟨j,hdj⟩)
      simp [Act.put,this]
     ·rw [hu j e,hd,hdi]
      have hne : ds[i]'(by omega) ≠ d := fun e2 => e ((List.getElem?_inj (by omega) hnd).1 (by rw [hdj,hdi,e2]))
      simp only [Act.put,Array.getElem?_setIfInBounds_ne hne]
      exact R.new j d hj (((hl1 j).1 hl).resolve_left e) hdj
    ·intro j hj hl
     by_cases e : j = i
     ·subst e; exact hF
     ·have hlj := ((hl1 j).1 hl).resolve_left e
      have hcj := hops j hj
      unfold chkOp at hcj
      cases hoj : ops[j]? with
      | none => rw [hoj] at hcj; simp at hcj
      | some oj =>
       rw [hoj] at hcj
       simp only [Bool.and_eq_true,List.all_eq_true] at hcj
       have hCj : ∀ k,k ∈ C j -> k < n /\ listed.getD k false = true := fun k hk => by
        have hk2 := hcj.1.2 k hk
        simp only [Bool.or_eq_true,beq_iff_eq] at hk2
        rcases hk2 with h2 | h2
        ·rw [h2]; exact ⟨hj,hlj⟩
        ·refine ⟨?_,R.closed j oj k hlj hoj h2⟩
         obtain ⟨e',he',hb',hke⟩ := waits_spec h2
         have := Array.all_eq_true_iff_forall_mem.1 hcj.2 e' he'
         rw [hb'] at this
         simp at this
         omega
       rw [show restr (C j) (updT g i (v,w.heap.size,w'.heap.size)) = restr (C j) g from restr_congr (fun k hk => hu k (fun e2 => by
        have := (hCj k hk).2
        rw [e2,hli] at this
        cases this))]
       exact mono j hj g w w' hb (fun k hk => (R.rng k (hCj k hk).1 (hCj k hk).2).2.2) (R.fact j hj hlj)
    ·intro j hj hl
     by_cases e : j = i
     ·subst e
      rw [hui]
      exact ⟨R.below.size,hb.size,Nat.le_refl _⟩
     ·rw [hu j e]
      have := R.rng j hj (((hl1 j).1 hl).resolve_left e)
      exact ⟨this.1,this.2.1,Nat.le_trans this.2.2 hb.size⟩
    ·intro j k hj hk hne hlj hlk
     by_cases e : j = i
     ·subst e
      have hk2 := ((hl1 k).1 hlk).resolve_left (Ne.symm hne)
      rw [hui,hu k (Ne.symm hne)]
      exact .inr (R.rng k hk hk2).2.2
     ·have hj2 := ((hl1 j).1 hlj).resolve_left e
      by_cases e2 : k = i
      ·subst e2
       rw [hui,hu j e]
       exact .inl (R.rng j hj hj2).2.2
      ·rw [hu j e,hu k e2]
       exact R.disj j k hj hk hne hj2 (((hl1 k).1 hlk).resolve_left e2)
    ·have := countP_lt (p := fun j => !listed.getD j false) (q := fun j => !(listed.setIfInBounds i true).getD j false) (i := i) (fun x hx => by
      cases hlx : listed.getD x false
      ·rfl
      ·rw [(hl1 x).2 (.inr hlx)] at hx; simp at hx) (by simp [hli]) (by rw [(hl1 i).2 (.inl rfl)]; rfl) (List.mem_range.2 hin)
     omega
   unfold wpOp
   rw [ho]
   have hwa : Region.wanted o (yielded ops a.tmps) = true := by
    unfold Region.wanted
    cases hgd : o.guard with
    | none => rfl
    | some x => rw [hgd] at hg; simp at hg
   simp only [hwa,if_true]
   refine .inl ?_
   unfold Oper.wp
   rw [hev]
   unfold Yld at hY
   generalize (execOp (evL O (L i) g) o).run P w = r at hY
   cases r with
   | halt x w' => exact hY.elim
   | ok x w' =>
    cases x with
    | value v => exact hnext v w' hY.1 hY.2
    | enter f args =>
     refine Calls.mono hY (fun e w'' he => ?_)
     obtain ⟨v,rfl,h1,h2⟩ := he
     exact hnext v w'' h1 h2
    | skip => exact hY.elim
    | defer d => exact hY.elim
    | row r args => exact hY.elim
    | _ => exact hY.elim
theorem wp_region_grow {id : Nat} {a0 : Act} {w : World} (hm : P.follows .mixedOrders = true) (n mm : Nat) (ds : List Nat) (O : List (Nat × Value)) (L : Nat -> List (Nat × Nat)) (C : Nat -> List Nat) (F : Nat -> (Nat -> Tk) -> World -> Prop)
  (m : Nat) (hm2 : a0.tmps.size = m) (chk : chkAll ops n mm m ds (O.map (·.1)) L C = true) (hO : ∀ x ∈ O,a0.tmps[x.1]? = some x.2)
  (mono : ∀ i,i < n -> ∀ g w w',Below w.heap.size w w' -> (∀ k,k ∈ C i -> (g k).2.2 <= w.heap.size) -> F i (restr (C i) g) w -> F i (restr (C i) g) w')
  (step : ∀ i,i < n -> ∀ o,ops[i]? = some o -> ∀ g w2,Below w.heap.size w.drew w2 -> (∀ j,j < n -> waits o j = true -> F j (restr (C j) g) w2) ->
   (∀ j,j < n -> waits o j = true -> w.heap.size <= (g j).2.1 /\ (g j).2.1 <= (g j).2.2 /\ (g j).2.2 <= w2.heap.size) -> (∀ j k,j < n -> k < n -> j ≠ k -> waits o j = true -> waits o k = true -> (g j).2.2 <= (g k).2.1 ∨ (g k).2.2 <= (g j).2.1) ->
   Yld P (evL O (L i) g) o w2 fun v w' => Below w2.heap.size w2 w' /\ F i (restr (C i) (updT g i (v,w2.heap.size,w'.heap.size))) w')
  (last : ∀ fuel g w2,Below w.heap.size w.drew w2 -> (∀ j,j < n -> F j (restr (C j) g) w2) -> (∀ j,j < n -> w.heap.size <= (g j).2.1 /\ (g j).2.1 <= (g j).2.2 /\ (g j).2.2 <= w2.heap.size) ->
   (∀ j k,j < n -> k < n -> j ≠ k -> (g j).2.2 <= (g k).2.1 ∨ (g k).2.2 <= (g j).2.1) -> wpAny P .any ops Q (fuel + (mm + 1)) (lstA n (mm + 1)) ⟨fillT ds 0 g a0.tmps,a0.defers⟩ w2) : (Code.region id ops true).wp P Q a0 w := by
 refine wp_region_any hm ?_
 subst hm2
 have hsz : ops.size = n + (mm + 1) := by
  unfold chkAll at chk
  simp only [Bool.and_eq_true,beq_iff_eq] at chk
  exact chk.1.1.1.1.1.1.1.1
 have hf : ∀ i,(Array.replicate ops.size false).getD i false = false := fun i => by
  by_cases h : i < ops.size <;> simp [Array.getD,h]
 refine rg_run (w0 := w.drew) chk hO mono step last ops.size (Array.replicate ops.size false) (fun _ => zT) a0 w.drew
  ⟨by simp,fun j _ => hf j,fun i o j h => by (rw [hf] at h; exact absurd h (by decide)),Below.refl _ _,rfl,rfl,fun _ _ => rfl,fun i d _ h => by (rw [hf] at h; exact absurd h (by decide)),fun i _ h => by (rw [hf] at h; exact absurd h (by decide)),fun i _ h => by (rw [hf] at h; exact absurd h (by decide)),fun i j _ _ _ h => by (rw [hf] at h; exact absurd h (by decide))⟩ ?_
 have : (List.range n).countP (fun i => !(Array.replicate ops.size false).getD i false) <= n := by
  have := List.countP_le_length (p := fun i => !(Array.replicate ops.size false).getD i false) (l := List.range n)
  rwa [List.length_range] at this
 omega
end
end Go.Proofs.YtofnbapnmhibaaaGreat.A
