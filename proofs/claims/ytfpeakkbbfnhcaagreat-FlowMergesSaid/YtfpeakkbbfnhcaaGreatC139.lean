/- Texts that the proof is made of, joined. No condition. -/
import Derived.Test.YtfpeakkbbfnhcaaGreatC138
import Derived.Deep.DeepCutAuto
import Derived.Test.YtfpeakkbbfnhcaaGreatC134
import Derived.Test.YtfpeakkbbfnhcaaGreatC13H
set_option linter.unusedVariables false
set_option linter.unusedSimpArgs false
set_option maxRecDepth 100000
set_option maxHeartbeats 16000000
namespace Go.Proofs.YtfpeakkbbfnhcaaGreat.A
open Go.RowKit Go.Proofs.YtfpeakkbbfnhcaaGreat.D Go.Proofs.YtfpeakkbbfnhcaaGreat.O
theorem inf_typ : Inf 45 43 2 24 (.agg #[.int .i64 0,.string ⟨#[]⟩]) := ⟨by kernel_rfl,Tryz.underlying43,rfl,by decide,by decide⟩
theorem shape_typ : Shape (sP tyC) 2 := fun _ _ vs x h => by
 have : vs = tyC x := h
 subst this
 exact ⟨rfl,by simp [tyC,Value.oneCell']⟩
theorem run_copyX {α : Type} {sz bytes : Nat} {T TS : TypeId} {z : Value} (hI : Inf T TS sz bytes z) {c : α -> List Value} (hS : Shape (sP c) sz) (w : World) {ok : Nat -> Prop} {p : Option Addr} {n cap : Nat} (ys : List α) (hr : RdX sz (sP c) ok w (.slice p n cap) ys) (hb : ys.length <= 1000000) (ty : TypeId) :
  ∃ v' w',(Builtin.append_ #[TS,TS] ty #[.slice none 0 0,.slice p n cap]).run Tryz.prog w = .ok v' w' /\ OwnX sz T (sP c) w' w.heap.size v' ys /\ Below w.heap.size w w' := by
 obtain ⟨p',cap',e,h1,h2,h3⟩ := hr
 simp only [Value.slice.injEq] at e
 obtain ⟨rfl,rfl,rfl⟩ := e
 cases p with
 | none =>
  have hy : ys = [] := by
   rcases h3 with h | ⟨_,_,e,_⟩
   ·exact h
   ·cases e
  subst hy
  have hc := h2 rfl
  subst hc
  obtain ⟨hi0,hund,hzs,hsz,hby⟩ := hI
  obtain ⟨i0,hi,hz0,hz1,hz2⟩ := info_parts hi0
  exact ⟨_,w,run_append_owned_none w w.heap.size TS ty T i0 sz hund hi (.slice none 0 0) 0 [] (World.ownsRow_nil _ _ _ _),OwnX.nil _ _ _ _ _,Below.refl _ _⟩
 | some a =>
  obtain ⟨v',w',hrun,g1,g2,g4⟩ := run_appX hI (sP.grow c) hS w w.heap.size (.slice none 0 0) [] ys (OwnX.nil _ _ _ _ _) a cap (fun i u hu => by
   rcases h3 with rfl | ⟨b,off',e,_,_,hc⟩
   ·simp at hu
   ·simp only [Option.some.injEq] at e
    subst e
    obtain ⟨vs,hv,hcell⟩ := hc i u hu
    refine ⟨vs,hv,fun j u hu => ?_⟩
    have := hcell j u hu
    unfold Addr.add
    split
    ·rename_i h0
     have e0 : off' + i * sz + j = off' := by omega
     rw [e0] at this
     exact this
    ·rw [Nat.add_assoc] at this
     exact this) (by simpa using hb) (Nat.le_refl _) ty
  exact ⟨v',w',hrun,g1,⟨g2.os,g2.tape,g2.output,g2.size,fun k hk => g2.block k hk (fun e => by cases e)⟩⟩
theorem wp_copyX {α : Type} {sz bytes : Nat} {T TS : TypeId} {z : Value} (hI : Inf T TS sz bytes z) {c : α -> List Value} (hS : Shape (sP c) sz) {w : World} {ops : Array Oper} {rest : List Oper} {o : Oper} {a : Act} {Q : Exit -> Act -> World -> Prop} (hgd : o.guard = none) (s x : Operand)
  (ho : o.op = .call { callee := .builtin .append,args := #[s,x],argTypes := #[TS,TS] }) (hs : a.eval s = .slice none 0 0) {ok : Nat -> Prop} (p : Option Addr) (n cap : Nat) (ys : List α) (hx : a.eval x = .slice p n cap) (hr : RdX sz (sP c) ok w (.slice p n cap) ys) (hb : ys.length <= 1000000)
  (h : ∀ p' n' c' w',OwnX sz T (sP c) w' w.heap.size (.slice p' n' c') ys -> Below w.heap.size w w' -> wpList Tryz.prog ops Q rest (a.put o.dst (.slice p' n' c')) w') :
  wpList Tryz.prog ops Q (o :: rest) a w := by
 refine wpList_plain hgd fun K hK => ?_
 obtain ⟨v',w',hrun,g1,g2⟩ := run_copyX hI hS w ys hr hb o.type
 obtain ⟨p',n',c',rfl⟩ := g1.slice
 unfold Oper.wp execOp
 simp only [ho,resolve,invoke,builtin,Sem.run_bind,Sem.run_pure,Result.andThen_ok,List.map_toArray,List.map_cons,List.map_nil,hs,hx]
 simp only [hrun]
 exact hK _ _ (h _ _ _ _ g1 g2)
theorem OwnX.put9 {T : TypeId} {w : World} {B : Nat} {v : Value} {rs : List (Raw 9)} (h : OwnX 9 T (sP rawC) w B v rs) {i : Nat} {r r' : Raw 9} (hi : rs[i]? = some r) {u0 u1 u2 u3 u4 u5 u6 u7 u8 : Value} (hr' : rawC r' = [u0,u1,u2,u3,u4,u5,u6,u7,u8]) :
  ∃ g cap,v = .slice (some ⟨g,0,none⟩) rs.length cap /\ rs.length <= cap /\ B <= g /\ g < w.heap.size /\ (∀ k,w.frozen? ⟨g,k,none⟩ = false) /\ (∀ k u',(rawC r)[k]? = some u' -> w.cell? ⟨g,i * 9 + k,none⟩ = some u') /\
   OwnX 9 T (sP rawC) (((((((((w.setCell ⟨g,i * 9 + 0,none⟩ u0).setCell ⟨g,i * 9 + 1,none⟩ u1).setCell ⟨g,i * 9 + 2,none⟩ u2).setCell ⟨g,i * 9 + 3,none⟩ u3).setCell ⟨g,i * 9 + 4,none⟩ u4).setCell ⟨g,i * 9 + 5,none⟩ u5).setCell ⟨g,i * 9 + 6,none⟩ u6).setCell ⟨g,i * 9 + 7,none⟩ u7).setCell ⟨g,i * 9 + 8,none⟩ u8) B v (rs.set i r') := by
 have hl := (List.getElem?_eq_some_iff.1 hi).1
 obtain ⟨l,hl6,hone⟩ := r
 match l,hl6 with
 | [a0,a1,a2,a3,a4,a5,a6,a7,a8],_ =>
  have ho : ∀ u ∈ [u0,u1,u2,u3,u4,u5,u6,u7,u8],u.oneCell' = true := by rw [<- hr']; exact r'.2.2
  have q0 := ho u0 (by simp)
  have q1 := ho u1 (by simp)
  have q2 := ho u2 (by simp)
  have q3 := ho u3 (by simp)
  have q4 := ho u4 (by simp)
  have q5 := ho u5 (by simp)
  have q6 := ho u6 (by simp)
  have q7 := ho u7 (by simp)
  have q8 := ho u8 (by simp)
  have p0 := hone a0 (by simp)
  have p1 := hone a1 (by simp)
  have p2 := hone a2 (by simp)
  have p3 := hone a3 (by simp)
  have p4 := hone a4 (by simp)
  have p5 := hone a5 (by simp)
  have p6 := hone a6 (by simp)
  have p7 := hone a7 (by simp)
  have p8 := hone a8 (by simp)
  have mk : ∀ b0 b1 b2 b3 b4 b5 b6 b7 b8 : Value,b0.oneCell' = true -> b1.oneCell' = true -> b2.oneCell' = true -> b3.oneCell' = true -> b4.oneCell' = true -> b5.oneCell' = true -> b6.oneCell' = true -> b7.oneCell' = true -> b8.oneCell' = true -> ∃ y : Raw 9,y.1 = [b0,b1,b2,b3,b4,b5,b6,b7,b8] := by
   intro b0 b1 b2 b3 b4 b5 b6 b7 b8 k0 k1 k2 k3 k4 k5 k6 k7 k8
   refine ⟨⟨[b0,b1,b2,b3,b4,b5,b6,b7,b8],rfl,fun u hu => ?_⟩,rfl⟩
   simp only [List.mem_cons,List.not_mem_nil,or_false] at hu
   rcases hu with rfl | rfl | rfl | rfl | rfl | rfl | rfl | rfl | rfl <;> assumption
  obtain ⟨y0,z0⟩ := mk u0 a1 a2 a3 a4 a5 a6 a7 a8 q0 p1 p2 p3 p4 p5 p6 p7 p8
  obtain ⟨y1,z1⟩ := mk u0 u1 a2 a3 a4 a5 a6 a7 a8 q0 q1 p2 p3 p4 p5 p6 p7 p8
  obtain ⟨y2,z2⟩ := mk u0 u1 u2 a3 a4 a5 a6 a7 a8 q0 q1 q2 p3 p4 p5 p6 p7 p8
  obtain ⟨y3,z3⟩ := mk u0 u1 u2 u3 a4 a5 a6 a7 a8 q0 q1 q2 q3 p4 p5 p6 p7 p8
  obtain ⟨y4,z4⟩ := mk u0 u1 u2 u3 u4 a5 a6 a7 a8 q0 q1 q2 q3 q4 p5 p6 p7 p8
  obtain ⟨y5,z5⟩ := mk u0 u1 u2 u3 u4 u5 a6 a7 a8 q0 q1 q2 q3 q4 q5 p6 p7 p8
  obtain ⟨y6,z6⟩ := mk u0 u1 u2 u3 u4 u5 u6 a7 a8 q0 q1 q2 q3 q4 q5 q6 p7 p8
  obtain ⟨y7,z7⟩ := mk u0 u1 u2 u3 u4 u5 u6 u7 a8 q0 q1 q2 q3 q4 q5 q6 q7 p8
  obtain ⟨g,cap,rfl,e1,e2,e3,e4,e6,h1⟩ := h.put1 (j := 0) (y := y0) (u := u0) hi (by decide) (by unfold rawC; rw [z0]; rfl)
  obtain ⟨g1,cap1,t1,-,-,-,-,-,h2⟩ := h1.put1 (i := i) (x := y0) (j := 1) (y := y1) (u := u1) (by simp [hl]) (by decide) (by unfold rawC; rw [z0,z1]; rfl)
  simp only [Value.slice.injEq,Option.some.injEq,Addr.mk.injEq,and_true] at t1
  obtain ⟨rfl,-⟩ := t1
  obtain ⟨g2,cap2,t2,-,-,-,-,-,h3⟩ := h2.put1 (i := i) (x := y1) (j := 2) (y := y2) (u := u2) (by simp [hl]) (by decide) (by unfold rawC; rw [z1,z2]; rfl)
  simp only [Value.slice.injEq,Option.some.injEq,Addr.mk.injEq,and_true] at t2
  obtain ⟨rfl,-⟩ := t2
  obtain ⟨g3,cap3,t3,-,-,-,-,-,h4⟩ := h3.put1 (i := i) (x := y2) (j := 3) (y := y3) (u := u3) (by simp [hl]) (by decide) (by unfold rawC; rw [z2,z3]; rfl)
  simp only [Value.slice.injEq,Option.some.injEq,Addr.mk.injEq,and_true] at t3
  obtain ⟨rfl,-⟩ := t3
  obtain ⟨g4,cap4,t4,-,-,-,-,-,h5⟩ := h4.put1 (i := i) (x := y3) (j := 4) (y := y4) (u := u4) (by simp [hl]) (by decide) (by unfold rawC; rw [z3,z4]; rfl)
  simp only [Value.slice.injEq,Option.some.injEq,Addr.mk.injEq,and_true] at t4
  obtain ⟨rfl,-⟩ := t4
  obtain ⟨g5,cap5,t5,-,-,-,-,-,h6⟩ := h5.put1 (i := i) (x := y4) (j := 5) (y := y5) (u := u5) (by simp [hl]) (by decide) (by unfold rawC; rw [z4,z5]; rfl)
  simp only [Value.slice.injEq,Option.some.injEq,Addr.mk.injEq,and_true] at t5
  obtain ⟨rfl,-⟩ := t5
  obtain ⟨g6,cap6,t6,-,-,-,-,-,h7⟩ := h6.put1 (i := i) (x := y5) (j := 6) (y := y6) (u := u6) (by simp [hl]) (by decide) (by unfold rawC; rw [z5,z6]; rfl)
  simp only [Value.slice.injEq,Option.some.injEq,Addr.mk.injEq,and_true] at t6
  obtain ⟨rfl,-⟩ := t6
  obtain ⟨g7,cap7,t7,-,-,-,-,-,h8⟩ := h7.put1 (i := i) (x := y6) (j := 7) (y := y7) (u := u7) (by simp [hl]) (by decide) (by unfold rawC; rw [z6,z7]; rfl)
  simp only [Value.slice.injEq,Option.some.injEq,Addr.mk.injEq,and_true] at t7
  obtain ⟨rfl,-⟩ := t7
  obtain ⟨g8,cap8,t8,-,-,-,-,-,h9⟩ := h8.put1 (i := i) (x := y7) (j := 8) (y := r') (u := u8) (by simp [hl]) (by decide) (by rw [hr']; unfold rawC; rw [z7]; rfl)
  simp only [Value.slice.injEq,Option.some.injEq,Addr.mk.injEq,and_true] at t8
  obtain ⟨rfl,-⟩ := t8
  simp only [List.set_set] at h9
  exact ⟨g,cap,rfl,e1,e2,e3,e4,e6,h9⟩
end Go.Proofs.YtfpeakkbbfnhcaaGreat.A
namespace Go.Proofs.YtfpeakkbbfnhcaaGreat.A
open Go.RowKit Go.Proofs.YtfpeakkbbfnhcaaGreat.D Go.Proofs.YtfpeakkbbfnhcaaGreat.O
theorem take_set_next {α : Type} : ∀ {l : List α} {i : Nat} {a : α},i < l.length -> (l.set i a).take (i + 1) = l.take i ++ [a]
 | x :: l,0,a,_ => rfl
 | x :: l,i + 1,a,h => by
  rw [List.set_cons_succ,List.take_succ_cons,List.take_succ_cons,take_set_next (by simpa using h)]
  rfl
theorem drop_set_next {α : Type} : ∀ {l : List α} {i : Nat} {a : α},(l.set i a).drop (i + 1) = l.drop (i + 1)
 | [],_,_ => rfl
 | x :: l,0,a => rfl
 | x :: l,i + 1,a => by
  rw [List.set_cons_succ,List.drop_succ_cons,List.drop_succ_cons,drop_set_next]
theorem take_next {α : Type} : ∀ {l : List α} {i : Nat} {a : α},l[i]? = some a -> l.take (i + 1) = l.take i ++ [a]
 | x :: l,0,a,h => by
  simp only [List.getElem?_cons_zero,Option.some.injEq] at h
  subst h
  rfl
 | x :: l,i + 1,a,h => by
  rw [List.take_succ_cons,List.take_succ_cons,take_next (by simpa using h)]
  rfl
 | [],i,a,h => by simp at h
theorem kset9 (w : World) (g o0 o1 o2 o3 o4 o5 o6 o7 o8 : Nat) (v0 v1 v2 v3 v4 v5 v6 v7 v8 : Value) : Kpt [g] w (((((((((w.setCell ⟨g,o0,none⟩ v0).setCell ⟨g,o1,none⟩ v1).setCell ⟨g,o2,none⟩ v2).setCell ⟨g,o3,none⟩ v3).setCell ⟨g,o4,none⟩ v4).setCell ⟨g,o5,none⟩ v5).setCell ⟨g,o6,none⟩ v6).setCell ⟨g,o7,none⟩ v7).setCell ⟨g,o8,none⟩ v8) :=
 ((((((((Kpt.set [g] w g o0 v0 (by simp)).trans (Kpt.set [g] _ g o1 v1 (by simp)) (fun _ h => .inl h)).trans (Kpt.set [g] _ g o2 v2 (by simp)) (fun _ h => .inl h)).trans (Kpt.set [g] _ g o3 v3 (by simp)) (fun _ h => .inl h)).trans (Kpt.set [g] _ g o4 v4 (by simp)) (fun _ h => .inl h)).trans (Kpt.set [g] _ g o5 v5 (by simp)) (fun _ h => .inl h)).trans (Kpt.set [g] _ g o6 v6 (by simp)) (fun _ h => .inl h)).trans (Kpt.set [g] _ g o7 v7 (by simp)) (fun _ h => .inl h)).trans (Kpt.set [g] _ g o8 v8 (by simp)) (fun _ h => .inl h)
theorem all5 {p : Nat -> Prop} (h0 : p 0) (h1 : p 1) (h2 : p 2) (h3 : p 3) (h4 : p 4) : ∀ i,i < 5 -> p i
 | 0,_ => h0
 | 1,_ => h1
 | 2,_ => h2
 | 3,_ => h3
 | 4,_ => h4
 | n + 5,h => absurd h (by omega)
def fccC : Nat -> List Nat
 | i => [i]
def fccL : Nat -> List (Nat × Nat)
 | 1 => [(25,0)]
 | 4 => [(28,3)]
 | _ => []
def fccF (b0 gm n2 c2 j0 cp cc ch n1 n3 n4 : Nat) (pp pc ph : Option Addr) (m : Mth) : Nat -> (Nat -> Tk) -> World -> Prop
 | 0,g,_ => (g 0).1 = .pointer (some ⟨b0,5,none⟩)
 | 1,g,_ => (g 1).1 = .slice (some ⟨gm,0,none⟩) n2 c2
 | 2,g,_ => (g 2).1 = .int .i64 (j0 : Int)
 | 3,g,_ => (g 3).1 = .agg #[.string m.name,.slice pp n1 cp,.int .i64 m.ret.1,.string m.ret.2,.bool m.st,.bool m.ab,.int .i64 m.locals,.slice pc n3 cc,.slice ph n4 ch]
 | 4,g,w => ∃ r1 r2 r3 r4 r5 r6 r7 r8 r9,(g 4).1 = .agg #[.string m.name,.slice r1 r2 r3,.int .i64 m.ret.1,.string m.ret.2,.bool m.st,.bool m.ab,.int .i64 m.locals,.slice r4 r5 r6,.slice r7 r8 r9] /\ mO (inR (g 4)) w [.string m.name,.slice r1 r2 r3,.int .i64 m.ret.1,.string m.ret.2,.bool m.st,.bool m.ab,.int .i64 m.locals,.slice r4 r5 r6,.slice r7 r8 r9] m
 | _,_,_ => True
theorem fcc_mono (b0 gm n2 c2 j0 cp cc ch n1 n3 n4 : Nat) (pp pc ph : Option Addr) (m : Mth) : ∀ i,i < 5 -> ∀ g w w',Below w.heap.size w w' -> (∀ k,k ∈ fccC i -> (g k).2.2 <= w.heap.size) -> fccF b0 gm n2 c2 j0 cp cc ch n1 n3 n4 pp pc ph m i (restr (fccC i) g) w -> fccF b0 gm n2 c2 j0 cp cc ch n1 n3 n4 pp pc ph m i (restr (fccC i) g) w' :=
 all5
  (fun _ _ _ _ _ h => h)
  (fun _ _ _ _ _ h => h)
  (fun _ _ _ _ _ h => h)
  (fun _ _ _ _ _ h => h)
  (fun _ _ _ hb _ h => by obtain ⟨r1,r2,r3,r4,r5,r6,r7,r8,r9,e,h⟩ := h; exact ⟨r1,r2,r3,r4,r5,r6,r7,r8,r9,e,mO.grow _ _ _ _ _ _ h (fun _ h _ => h) (.of_below hb) hb.size⟩)
end Go.Proofs.YtfpeakkbbfnhcaaGreat.A
namespace Go.Proofs.YtfpeakkbbfnhcaaGreat.R
open Go.RowKit Go.Proofs.YtfpeakkbbfnhcaaGreat.D Go.Proofs.YtfpeakkbbfnhcaaGreat.O Go.Proofs.YtfpeakkbbfnhcaaGreat.A
theorem cl_typ (p : Option Addr) (n cap : Nat) {ok : Nat -> Prop} (ys : List Ty) (w : World) (hr : RdX 2 (sP tyC) ok w (.slice p n cap) ys) (hb : ys.length <= 1000000) :
  Calls Tryz.prog 126 #[.slice p n cap] w fun e w' => ∃ p' n' c',e = .returned (.slice p' n' c') /\ OwnX 2 45 (sP tyC) w' w.heap.size (.slice p' n' c') ys /\ Below w.heap.size w w' := by
 go_enter Tryz.func126,Tryz.ntmps126
 go_wp2_with (at_builtin; refine wp_copyX inf_typ shape_typ rfl _ _ rfl rfl _ _ _ _ rfl hr hb ?_; intro p' n' c' w' ho hb')
 go_ret
 exact ⟨_,_,_,rfl,ho,hb'⟩
theorem cl_ins (p : Option Addr) (n cap : Nat) {ok : Nat -> Prop} (ys : List Ins) (w : World) (hr : RdX 7 (sP insC) ok w (.slice p n cap) ys) (hb : ys.length <= 1000000) :
  Calls Tryz.prog 127 #[.slice p n cap] w fun e w' => ∃ p' n' c',e = .returned (.slice p' n' c') /\ OwnX 7 59 (sP insC) w' w.heap.size (.slice p' n' c') ys /\ Below w.heap.size w w' := by
 go_enter Tryz.func127,Tryz.ntmps127
 go_wp2_with (at_builtin; refine wp_copyX inf_ins shape_ins rfl _ _ rfl rfl _ _ _ _ rfl hr hb ?_; intro p' n' c' w' ho hb')
 go_ret
 exact ⟨_,_,_,rfl,ho,hb'⟩
theorem cl_hnd (p : Option Addr) (n cap : Nat) {ok : Nat -> Prop} (ys : List Hnd) (w : World) (hr : RdX 4 (sP hndC) ok w (.slice p n cap) ys) (hb : ys.length <= 1000000) :
  Calls Tryz.prog 128 #[.slice p n cap] w fun e w' => ∃ p' n' c',e = .returned (.slice p' n' c') /\ OwnX 4 68 (sP hndC) w' w.heap.size (.slice p' n' c') ys /\ Below w.heap.size w w' := by
 go_enter Tryz.func128,Tryz.ntmps128
 go_wp2_with (at_builtin; refine wp_copyX inf_hnd shape_hnd rfl _ _ rfl rfl _ _ _ _ rfl hr hb ?_; intro p' n' c' w' ho hb')
 go_ret
 exact ⟨_,_,_,rfl,ho,hb'⟩
theorem cl_str (p : Option Addr) (n cap : Nat) {ok : Nat -> Prop} (ys : List ByteArray) (w : World) (hr : RdX 1 (sP strC) ok w (.slice p n cap) ys) (hb : ys.length <= 1000000) :
  Calls Tryz.prog 76 #[.slice p n cap] w fun e w' => ∃ p' n' c',e = .returned (.slice p' n' c') /\ OwnX 1 9 (sP strC) w' w.heap.size (.slice p' n' c') ys /\ Below w.heap.size w w' := by
 go_enter Tryz.func76,Tryz.ntmps76
 go_wp2_with (at_builtin; refine wp_copyX inf_str shape_str rfl _ _ rfl rfl _ _ _ _ rfl hr hb ?_; intro p' n' c' w' ho hb')
 go_ret
 exact ⟨_,_,_,rfl,ho,hb'⟩
theorem cl_fld (p : Option Addr) (n cap : Nat) {ok : Nat -> Prop} (ys : List Fld) (w : World) (hr : RdX 4 (sP fldC) ok w (.slice p n cap) ys) (hb : ys.length <= 1000000) :
  Calls Tryz.prog 77 #[.slice p n cap] w fun e w' => ∃ p' n' c',e = .returned (.slice p' n' c') /\ OwnX 4 87 (sP fldC) w' w.heap.size (.slice p' n' c') ys /\ Below w.heap.size w w' := by
 go_enter Tryz.func77,Tryz.ntmps77
 go_wp2_with (at_builtin; refine wp_copyX inf_fld shape_fld rfl _ _ rfl rfl _ _ _ _ rfl hr hb ?_; intro p' n' c' w' ho hb')
 go_ret
 exact ⟨_,_,_,rfl,ho,hb'⟩
theorem cl_mth (p : Option Addr) (n cap : Nat) {ok : Nat -> Prop} (ys : List (Raw 9)) (w : World) (hr : RdX 9 (sP rawC) ok w (.slice p n cap) ys) (hb : ys.length <= 1000000) :
  Calls Tryz.prog 78 #[.slice p n cap] w fun e w' => ∃ p' n' c',e = .returned (.slice p' n' c') /\ OwnX 9 49 (sP rawC) w' w.heap.size (.slice p' n' c') ys /\ Below w.heap.size w w' := by
 go_enter Tryz.func78,Tryz.ntmps78
 go_wp2_with (at_builtin; refine wp_copyX inf_mth (shape_raw 9) rfl _ _ rfl rfl _ _ _ _ rfl hr hb ?_; intro p' n' c' w' ho hb')
 go_ret
 exact ⟨_,_,_,rfl,ho,hb'⟩
theorem copym_t (m : Mth) (pp pc ph : Option Addr) (np cp nc cc nh ch : Nat) {ok : Nat -> Prop} (w : World) (hp : RdX 2 (sP tyC) ok w (.slice pp np cp) m.params) (hc : RdX 7 (sP insC) ok w (.slice pc nc cc) m.code) (hh : RdX 4 (sP hndC) ok w (.slice ph nh ch) m.hs)
  (hl1 : m.params.length <= 1000000) (hl2 : m.code.length <= 1000000) (hl3 : m.hs.length <= 1000000) :
  Calls Tryz.prog 79 #[.agg #[.string m.name,.slice pp np cp,.int .i64 m.ret.1,.string m.ret.2,.bool m.st,.bool m.ab,.int .i64 m.locals,.slice pc nc cc,.slice ph nh ch]] w (MAnsO m w) := by
 obtain ⟨wK,hwK⟩ : ∃ x,x = (w.alloc (.cells #[.string m.name,.slice pp np cp,.int .i64 m.ret.1,.string m.ret.2,.bool m.st,.bool m.ab,.int .i64 m.locals,.slice pc nc cc,.slice ph nh ch] 49)).alloc (.cells #[.string ⟨#[]⟩,.slice none 0 0,.int .i64 0,.string ⟨#[]⟩,.bool false,.bool false,.int .i64 0,.slice none 0 0,.slice none 0 0] 49) := ⟨_,rfl⟩
 have hA : Below w.heap.size w wK := by rw [hwK]; exact (below_alM _ _).trans ((below_alM _ _).mono (below_alM _ _).size)
 have hszK : wK.heap.size = w.heap.size + 2 := by rw [hwK]; simp
 have hxK : wK.heap[w.heap.size]? = some (.cells #[.string m.name,.slice pp np cp,.int .i64 m.ret.1,.string m.ret.2,.bool m.st,.bool m.ab,.int .i64 m.locals,.slice pc nc cc,.slice ph nh ch] 49 (0,0)) := by rw [hwK,(below_alM _ _).block _ (by simp)]; exact heap_alloc_new _ _
 have hxR : wK.heap[w.heap.size + 1]? = some (.cells #[.string ⟨#[]⟩,.slice none 0 0,.int .i64 0,.string ⟨#[]⟩,.bool false,.bool false,.int .i64 0,.slice none 0 0,.slice none 0 0] 49 (0,0)) := by rw [hwK]; have := heap_alloc_new (w.alloc (.cells #[.string m.name,.slice pp np cp,.int .i64 m.ret.1,.string m.ret.2,.bool m.st,.bool m.ab,.int .i64 m.locals,.slice pc nc cc,.slice ph nh ch] 49)) (.cells #[.string ⟨#[]⟩,.slice none 0 0,.int .i64 0,.string ⟨#[]⟩,.bool false,.bool false,.int .i64 0,.slice none 0 0,.slice none 0 0] 49); rwa [World.size_alloc] at this
 have HP := hid hp
 have HC := hid hc
 have HH := hid hh
 have HXK := hid hxK
 have HXR := hid hxR
 have HA := hid hA
 clear hxK hxR hA hp hc hh
 go_enter Tryz.func79,Tryz.ntmps79
 go_upto_region 1 with fail
 rw [<- hwK]
 clear hwK
 obtain ⟨ul,uc,uf⟩ := boxN HXK.out
 have u1 := uc 1 _ rfl
 have uz1 := uf 1
 simp only [Nat.zero_add] at u1
 clear uc uf
 have hr0 := HP.out.any (sP.grow _) HA.out
 go_upto_region 2 with (go_at_call 126; refine (cl_typ _ _ _ _ _ hr0 hl1).mono ?_; rintro _ x0 ⟨p0,n0,c0,rfl,ho0,hb0⟩; have hX0 : x0.heap[w.heap.size]? = some (.cells #[.string m.name,.slice pp np cp,.int .i64 m.ret.1,.string m.ret.2,.bool m.st,.bool m.ab,.int .i64 m.locals,.slice pc nc cc,.slice ph nh ch] 49 (0,0)) := (hb0.block _ (by omega)).trans HXK.out; have hR0 : x0.heap[w.heap.size + 1]? = some (.cells #[.string ⟨#[]⟩,.slice none 0 0,.int .i64 0,.string ⟨#[]⟩,.bool false,.bool false,.int .i64 0,.slice none 0 0,.slice none 0 0] 49 (0,0)) := (hb0.block _ (by omega)).trans HXR.out; obtain ⟨a0_l,a0_c,a0_f⟩ := boxN hX0; have a0_1 := a0_c 1 _ rfl; have a0_z1 := a0_f 1; have a0_7 := a0_c 7 _ rfl; have a0_z7 := a0_f 7; simp only [Nat.zero_add] at a0_1 a0_7; clear a0_c a0_f)
 obtain ⟨y0,hy0⟩ : ∃ x,x = x0.setCell ⟨w.heap.size,1,none⟩ (.slice p0 n0 c0) := ⟨_,rfl⟩
 rw [<- hy0]
 have kS0 : Kpt [w.heap.size] x0 (x0.setCell ⟨w.heap.size,1,none⟩ (.slice p0 n0 c0)) := Kpt.set _ _ _ _ _ (by simp)
 have HX1 : Hid ((x0.setCell ⟨w.heap.size,1,none⟩ (.slice p0 n0 c0)).heap[w.heap.size]? = some (.cells #[.string m.name,.slice p0 n0 c0,.int .i64 m.ret.1,.string m.ret.2,.bool m.st,.bool m.ab,.int .i64 m.locals,.slice pc nc cc,.slice ph nh ch] 49 (0,0))) := hid (by rw [heap_setCell_same _ _ 1 _ _ _ hX0]; rfl)
 have hsx0 := hb0.size
 have hsy0 := kS0.size
 have HO0 := hid ((ho0.kptS kS0 (fun g e => by have := (ho0.lt g e).1; simp; omega)).mono (sP.grow _) (B' := w.heap.size + 2) (by omega))
 have HRX1 : Hid ((x0.setCell ⟨w.heap.size,1,none⟩ (.slice p0 n0 c0)).heap[w.heap.size + 1]? = some (.cells #[.string ⟨#[]⟩,.slice none 0 0,.int .i64 0,.string ⟨#[]⟩,.bool false,.bool false,.int .i64 0,.slice none 0 0,.slice none 0 0] 49 (0,0))) := hid ((kS0.2 _ (by omega) (by simp)).trans hR0)
 have HW1 := hid ((HA.out.trans (hb0.mono (by omega))).trans (Kpt.below kS0 (fun x hx => by simp at hx; omega) (by omega)))
 have hge0 : w.heap.size + 2 <= (x0.setCell ⟨w.heap.size,1,none⟩ (.slice p0 n0 c0)).heap.size := by omega
 rw [<- hy0] at HX1 HRX1 HW1 hge0 kS0 hsy0 HO0
 clear hy0 hX0 hR0 hr0 hb0 ho0 kS0 hsx0 hsy0 a0_l a0_1 a0_z1 a0_7 a0_z7 ul u1 uz1
 obtain ⟨v1l,v1c,v1f⟩ := boxN HX1.out
 have v17 := v1c 7 _ rfl
 have v1z7 := v1f 7
 simp only [Nat.zero_add] at v17
 clear v1c v1f
 have hr1 := HC.out.any (sP.grow _) HW1.out
 go_upto_region 3 with (go_at_call 127; refine (cl_ins _ _ _ _ _ hr1 hl2).mono ?_; rintro _ x1 ⟨p1,n1,c1,rfl,ho1,hb1⟩; have hX1 : x1.heap[w.heap.size]? = some (.cells #[.string m.name,.slice p0 n0 c0,.int .i64 m.ret.1,.string m.ret.2,.bool m.st,.bool m.ab,.int .i64 m.locals,.slice pc nc cc,.slice ph nh ch] 49 (0,0)) := (hb1.block _ (by omega)).trans HX1.out; have hR1 : x1.heap[w.heap.size + 1]? = some (.cells #[.string ⟨#[]⟩,.slice none 0 0,.int .i64 0,.string ⟨#[]⟩,.bool false,.bool false,.int .i64 0,.slice none 0 0,.slice none 0 0] 49 (0,0)) := (hb1.block _ (by omega)).trans HRX1.out; obtain ⟨a1_l,a1_c,a1_f⟩ := boxN hX1; have a1_7 := a1_c 7 _ rfl; have a1_z7 := a1_f 7; have a1_8 := a1_c 8 _ rfl; have a1_z8 := a1_f 8; simp only [Nat.zero_add] at a1_7 a1_8; clear a1_c a1_f)
 obtain ⟨y1,hy1⟩ : ∃ x,x = x1.setCell ⟨w.heap.size,7,none⟩ (.slice p1 n1 c1) := ⟨_,rfl⟩
 rw [<- hy1]
 have kS1 : Kpt [w.heap.size] x1 (x1.setCell ⟨w.heap.size,7,none⟩ (.slice p1 n1 c1)) := Kpt.set _ _ _ _ _ (by simp)
 have HX2 : Hid ((x1.setCell ⟨w.heap.size,7,none⟩ (.slice p1 n1 c1)).heap[w.heap.size]? = some (.cells #[.string m.name,.slice p0 n0 c0,.int .i64 m.ret.1,.string m.ret.2,.bool m.st,.bool m.ab,.int .i64 m.locals,.slice p1 n1 c1,.slice ph nh ch] 49 (0,0))) := hid (by rw [heap_setCell_same _ _ 7 _ _ _ hX1]; rfl)
 have hsx1 := hb1.size
 have hsy1 := kS1.size
 have HO1 := hid ((ho1.kptS kS1 (fun g e => by have := (ho1.lt g e).1; simp; omega)).mono (sP.grow _) (B' := w.heap.size + 2) (by omega))
 replace HO0 := hid ((HO0.out.kptS (.of_below hb1 : Kpt [] _ _) (fun _ _ => by simp)).kptS kS1 (fun g e => by have := (HO0.out.lt g e).1; simp; omega))
 have HRX2 : Hid ((x1.setCell ⟨w.heap.size,7,none⟩ (.slice p1 n1 c1)).heap[w.heap.size + 1]? = some (.cells #[.string ⟨#[]⟩,.slice none 0 0,.int .i64 0,.string ⟨#[]⟩,.bool false,.bool false,.int .i64 0,.slice none 0 0,.slice none 0 0] 49 (0,0))) := hid ((kS1.2 _ (by omega) (by simp)).trans hR1)
 have HW2 := hid ((HW1.out.trans (hb1.mono (by omega))).trans (Kpt.below kS1 (fun x hx => by simp at hx; omega) (by omega)))
 have hge1 : w.heap.size + 2 <= (x1.setCell ⟨w.heap.size,7,none⟩ (.slice p1 n1 c1)).heap.size := by omega
 rw [<- hy1] at HX2 HRX2 HW2 hge1 kS1 hsy1 HO0 HO1
 clear hy1 hX1 hR1 hr1 hb1 ho1 kS1 hsx1 hsy1 a1_l a1_7 a1_z7 a1_8 a1_z8 v1l v17 v1z7
 obtain ⟨v2l,v2c,v2f⟩ := boxN HX2.out
 have v28 := v2c 8 _ rfl
 have v2z8 := v2f 8
 simp only [Nat.zero_add] at v28
 clear v2c v2f
 have hr2 := HH.out.any (sP.grow _) HW2.out
 go_upto_region 4 with (go_at_call 128; refine (cl_hnd _ _ _ _ _ hr2 hl3).mono ?_; rintro _ x2 ⟨p2,n2,c2,rfl,ho2,hb2⟩; have hX2 : x2.heap[w.heap.size]? = some (.cells #[.string m.name,.slice p0 n0 c0,.int .i64 m.ret.1,.string m.ret.2,.bool m.st,.bool m.ab,.int .i64 m.locals,.slice p1 n1 c1,.slice ph nh ch] 49 (0,0)) := (hb2.block _ (by omega)).trans HX2.out; have hR2 : x2.heap[w.heap.size + 1]? = some (.cells #[.string ⟨#[]⟩,.slice none 0 0,.int .i64 0,.string ⟨#[]⟩,.bool false,.bool false,.int .i64 0,.slice none 0 0,.slice none 0 0] 49 (0,0)) := (hb2.block _ (by omega)).trans HRX2.out; obtain ⟨a2_l,a2_c,a2_f⟩ := boxN hX2; have a2_0 := a2_c 0 _ rfl; have a2_z0 := a2_f 0; have a2_1 := a2_c 1 _ rfl; have a2_z1 := a2_f 1; have a2_2 := a2_c 2 _ rfl; have a2_z2 := a2_f 2; have a2_3 := a2_c 3 _ rfl; have a2_z3 := a2_f 3; have a2_4 := a2_c 4 _ rfl; have a2_z4 := a2_f 4; have a2_5 := a2_c 5 _ rfl; have a2_z5 := a2_f 5; have a2_6 := a2_c 6 _ rfl; have a2_z6 := a2_f 6; have a2_7 := a2_c 7 _ rfl; have a2_z7 := a2_f 7; have a2_8 := a2_c 8 _ rfl; have a2_z8 := a2_f 8; simp only [Nat.zero_add] at a2_0 a2_1 a2_2 a2_3 a2_4 a2_5 a2_6 a2_7 a2_8; clear a2_c a2_f; obtain ⟨b_l,b_c,b_f⟩ := boxN hR2; have b_0 := b_c 0 _ rfl; have b_z0 := b_f 0; have b_1 := b_c 1 _ rfl; have b_z1 := b_f 1; have b_2 := b_c 2 _ rfl; have b_z2 := b_f 2; have b_3 := b_c 3 _ rfl; have b_z3 := b_f 3; have b_4 := b_c 4 _ rfl; have b_z4 := b_f 4; have b_5 := b_c 5 _ rfl; have b_z5 := b_f 5; have b_6 := b_c 6 _ rfl; have b_z6 := b_f 6; have b_7 := b_c 7 _ rfl; have b_z7 := b_f 7; have b_8 := b_c 8 _ rfl; have b_z8 := b_f 8; simp only [Nat.zero_add] at b_0 b_1 b_2 b_3 b_4 b_5 b_6 b_7 b_8; clear b_c b_f)
 have kS2 : Kpt [w.heap.size] x2 (x2.setCell ⟨w.heap.size,8,none⟩ (.slice p2 n2 c2)) := Kpt.set _ _ _ _ _ (by simp)
 have HX3 : Hid ((x2.setCell ⟨w.heap.size,8,none⟩ (.slice p2 n2 c2)).heap[w.heap.size]? = some (.cells #[.string m.name,.slice p0 n0 c0,.int .i64 m.ret.1,.string m.ret.2,.bool m.st,.bool m.ab,.int .i64 m.locals,.slice p1 n1 c1,.slice p2 n2 c2] 49 (0,0))) := hid (by rw [heap_setCell_same _ _ 8 _ _ _ hX2]; rfl)
 have hsx2 := hb2.size
 have hsy2 := kS2.size
 have HO2 := hid ((ho2.kptS kS2 (fun g e => by have := (ho2.lt g e).1; simp; omega)).mono (sP.grow _) (B' := w.heap.size + 2) (by omega))
 replace HO0 := hid ((HO0.out.kptS (.of_below hb2 : Kpt [] _ _) (fun _ _ => by simp)).kptS kS2 (fun g e => by have := (HO0.out.lt g e).1; simp; omega))
 replace HO1 := hid ((HO1.out.kptS (.of_below hb2 : Kpt [] _ _) (fun _ _ => by simp)).kptS kS2 (fun g e => by have := (HO1.out.lt g e).1; simp; omega))
 have HRX3 : Hid ((x2.setCell ⟨w.heap.size,8,none⟩ (.slice p2 n2 c2)).heap[w.heap.size + 1]? = some (.cells #[.string ⟨#[]⟩,.slice none 0 0,.int .i64 0,.string ⟨#[]⟩,.bool false,.bool false,.int .i64 0,.slice none 0 0,.slice none 0 0] 49 (0,0))) := hid ((kS2.2 _ (by omega) (by simp)).trans hR2)
 have HW3 := hid ((HW2.out.trans (hb2.mono (by omega))).trans (Kpt.below kS2 (fun x hx => by simp at hx; omega) (by omega)))
 have hge2 : w.heap.size + 2 <= (x2.setCell ⟨w.heap.size,8,none⟩ (.slice p2 n2 c2)).heap.size := by omega
 have hk := fun {x0 x1 x2 x3 x4 x5 x6 x7 x8 : Value} => (set9 (v0 := x0) (v1 := x1) (v2 := x2) (v3 := x3) (v4 := x4) (v5 := x5) (v6 := x6) (v7 := x7) (v8 := x8) HRX3.out).2
 go_wp2_with fail
 refine bodyPost_ret (v := .agg #[.string m.name,.slice p0 n0 c0,.int .i64 m.ret.1,.string m.ret.2,.bool m.st,.bool m.ab,.int .i64 m.locals,.slice p1 n1 c1,.slice p2 n2 c2]) (by simp [results,Tryz.results79,go_sem,b_0,b_1,b_2,b_3,b_4,b_5,b_6,b_7,b_8]) rfl ⟨_,_,_,_,_,_,_,_,_,rfl,⟨_,_,_,rfl,?_,?_,?_⟩,?_⟩
 ·exact (HO0.out.kptS hk (fun g e => by have := (HO0.out.lt g e).1; simp; omega)).ownR.step (fun b (hb : w.heap.size + 2 <= b) _ => (show w.heap.size <= b by omega)) (fun _ _ _ => rfl)
 ·exact (HO1.out.kptS hk (fun g e => by have := (HO1.out.lt g e).1; simp; omega)).ownR.step (fun b (hb : w.heap.size + 2 <= b) _ => (show w.heap.size <= b by omega)) (fun _ _ _ => rfl)
 ·exact (HO2.out.kptS hk (fun g e => by have := (HO2.out.lt g e).1; simp; omega)).ownR.step (fun b (hb : w.heap.size + 2 <= b) _ => (show w.heap.size <= b by omega)) (fun _ _ _ => rfl)
 ·exact HW3.out.trans (Kpt.below hk (fun x hx => by simp at hx; omega) (by omega))
theorem copyc_t (c : Cls) (pi pf pm : Option Addr) (ni ci nf cf nm cm : Nat) {ok : Nat -> Prop} (w : World) (hi : RdX 1 (sP strC) ok w (.slice pi ni ci) c.ifaces) (hf : RdX 4 (sP fldC) ok w (.slice pf nf cf) c.fields) (hm : RdX 9 mP ok w (.slice pm nm cm) c.methods)
  (hl1 : c.ifaces.length <= 1000000) (hl2 : c.fields.length <= 1000000) (hl3 : c.methods.length <= 1000000) (hlm : ∀ m ∈ c.methods,m.params.length <= 1000000 /\ m.code.length <= 1000000 /\ m.hs.length <= 1000000) :
  Calls Tryz.prog 36 #[.agg #[.string c.name,.string c.super,.slice pi ni ci,.int .i64 c.kind,.slice pf nf cf,.slice pm nm cm]] w (CAnsO c w) := by
 obtain ⟨rs0,hm1,hm2⟩ := hm.unraw shape_mth
 have hl4 : rs0.length <= 1000000 := by rw [hm2.len]; exact hl3
 obtain ⟨wK,hwK⟩ : ∃ x,x = (w.alloc (.cells #[.string c.name,.string c.super,.slice pi ni ci,.int .i64 c.kind,.slice pf nf cf,.slice pm nm cm] 42)).alloc (.cells #[.string ⟨#[]⟩,.string ⟨#[]⟩,.slice none 0 0,.int .i64 0,.slice none 0 0,.slice none 0 0] 42) := ⟨_,rfl⟩
 have hA : Below w.heap.size w wK := by rw [hwK]; exact (below_alM _ _).trans ((below_alM _ _).mono (below_alM _ _).size)
 have hszK : wK.heap.size = w.heap.size + 2 := by rw [hwK]; simp
 have hxK : wK.heap[w.heap.size]? = some (.cells #[.string c.name,.string c.super,.slice pi ni ci,.int .i64 c.kind,.slice pf nf cf,.slice pm nm cm] 42 (0,0)) := by rw [hwK,(below_alM _ _).block _ (by simp)]; exact heap_alloc_new _ _
 have hxR : wK.heap[w.heap.size + 1]? = some (.cells #[.string ⟨#[]⟩,.string ⟨#[]⟩,.slice none 0 0,.int .i64 0,.slice none 0 0,.slice none 0 0] 42 (0,0)) := by rw [hwK]; have := heap_alloc_new (w.alloc (.cells #[.string c.name,.string c.super,.slice pi ni ci,.int .i64 c.kind,.slice pf nf cf,.slice pm nm cm] 42)) (.cells #[.string ⟨#[]⟩,.string ⟨#[]⟩,.slice none 0 0,.int .i64 0,.slice none 0 0,.slice none 0 0] 42); rwa [World.size_alloc] at this
 have HI := hid hi
 have HF := hid hf
 have HM := hid hm1
 have HM2 := hid hm2
 have HLM := hid hlm
 have HXK := hid hxK
 have HXR := hid hxR
 have HA := hid hA
 clear hxK hxR hA hi hf hm hm1 hm2 hlm
 go_enter Tryz.func36,Tryz.ntmps36
 go_upto_region 1 with fail
 rw [<- hwK]
 clear hwK
 obtain ⟨ul,uc,uf⟩ := boxN HXK.out
 have u2 := uc 2 _ rfl
 have uz2 := uf 2
 simp only [Nat.zero_add] at u2
 clear uc uf
 have hr0 := HI.out.any (sP.grow _) HA.out
 go_upto_region 2 with (go_at_call 76; refine (cl_str _ _ _ _ _ hr0 hl1).mono ?_; rintro _ x0 ⟨p0,n0,c0,rfl,ho0,hb0⟩; have hX0 : x0.heap[w.heap.size]? = some (.cells #[.string c.name,.string c.super,.slice pi ni ci,.int .i64 c.kind,.slice pf nf cf,.slice pm nm cm] 42 (0,0)) := (hb0.block _ (by omega)).trans HXK.out; have hR0 : x0.heap[w.heap.size + 1]? = some (.cells #[.string ⟨#[]⟩,.string ⟨#[]⟩,.slice none 0 0,.int .i64 0,.slice none 0 0,.slice none 0 0] 42 (0,0)) := (hb0.block _ (by omega)).trans HXR.out; obtain ⟨a0_l,a0_c,a0_f⟩ := boxN hX0; have a0_2 := a0_c 2 _ rfl; have a0_z2 := a0_f 2; have a0_4 := a0_c 4 _ rfl; have a0_z4 := a0_f 4; simp only [Nat.zero_add] at a0_2 a0_4; clear a0_c a0_f)
 obtain ⟨y0,hy0⟩ : ∃ x,x = x0.setCell ⟨w.heap.size,2,none⟩ (.slice p0 n0 c0) := ⟨_,rfl⟩
 rw [<- hy0]
 have kS0 : Kpt [w.heap.size] x0 y0 := by rw [hy0]; exact Kpt.set _ _ _ _ _ (by simp)
 have HX1 : Hid (y0.heap[w.heap.size]? = some (.cells #[.string c.name,.string c.super,.slice p0 n0 c0,.int .i64 c.kind,.slice pf nf cf,.slice pm nm cm] 42 (0,0))) := hid (by rw [hy0,heap_setCell_same _ _ 2 _ _ _ hX0]; rfl)
 have hsx0 := hb0.size
 have hsy0 := kS0.size
 have HO0 := hid ((ho0.kptS kS0 (fun g e => by have := (ho0.lt g e).1; simp; omega)).mono (sP.grow _) (B' := w.heap.size + 2) (by omega))
 have HRX1 : Hid (y0.heap[w.heap.size + 1]? = some (.cells #[.string ⟨#[]⟩,.string ⟨#[]⟩,.slice none 0 0,.int .i64 0,.slice none 0 0,.slice none 0 0] 42 (0,0))) := hid ((kS0.2 _ (by omega) (by simp)).trans hR0)
 have HW1 := hid ((HA.out.trans (hb0.mono (by omega))).trans (Kpt.below kS0 (fun x hx => by simp at hx; omega) (by omega)))
 have hge0 : w.heap.size + 2 <= y0.heap.size := by omega
 clear hy0 hX0 hR0 hr0 hb0 ho0 kS0 hsx0 hsy0 a0_l a0_2 a0_z2 a0_4 a0_z4 ul u2 uz2
 obtain ⟨v1l,v1c,v1f⟩ := boxN HX1.out
 have v14 := v1c 4 _ rfl
 have v1z4 := v1f 4
 simp only [Nat.zero_add] at v14
 clear v1c v1f
 have hr1 := HF.out.any (sP.grow _) HW1.out
 go_upto_region 3 with (go_at_call 77; refine (cl_fld _ _ _ _ _ hr1 hl2).mono ?_; rintro _ x1 ⟨p1,n1,c1,rfl,ho1,hb1⟩; have hX1 : x1.heap[w.heap.size]? = some (.cells #[.string c.name,.string c.super,.slice p0 n0 c0,.int .i64 c.kind,.slice pf nf cf,.slice pm nm cm] 42 (0,0)) := (hb1.block _ (by omega)).trans HX1.out; have hR1 : x1.heap[w.heap.size + 1]? = some (.cells #[.string ⟨#[]⟩,.string ⟨#[]⟩,.slice none 0 0,.int .i64 0,.slice none 0 0,.slice none 0 0] 42 (0,0)) := (hb1.block _ (by omega)).trans HRX1.out; obtain ⟨a1_l,a1_c,a1_f⟩ := boxN hX1; have a1_4 := a1_c 4 _ rfl; have a1_z4 := a1_f 4; have a1_5 := a1_c 5 _ rfl; have a1_z5 := a1_f 5; simp only [Nat.zero_add] at a1_4 a1_5; clear a1_c a1_f)
 obtain ⟨y1,hy1⟩ : ∃ x,x = x1.setCell ⟨w.heap.size,4,none⟩ (.slice p1 n1 c1) := ⟨_,rfl⟩
 rw [<- hy1]
 have kS1 : Kpt [w.heap.size] x1 y1 := by rw [hy1]; exact Kpt.set _ _ _ _ _ (by simp)
 have HX2 : Hid (y1.heap[w.heap.size]? = some (.cells #[.string c.name,.string c.super,.slice p0 n0 c0,.int .i64 c.kind,.slice p1 n1 c1,.slice pm nm cm] 42 (0,0))) := hid (by rw [hy1,heap_setCell_same _ _ 4 _ _ _ hX1]; rfl)
 have hsx1 := hb1.size
 have hsy1 := kS1.size
 have HO1 := hid ((ho1.kptS kS1 (fun g e => by have := (ho1.lt g e).1; simp; omega)).mono (sP.grow _) (B' := w.heap.size + 2) (by omega))
 replace HO0 := hid ((HO0.out.kptS (.of_below hb1 : Kpt [] _ _) (fun _ _ => by simp)).kptS kS1 (fun g e => by have := (HO0.out.lt g e).1; simp; omega))
 have HRX2 : Hid (y1.heap[w.heap.size + 1]? = some (.cells #[.string ⟨#[]⟩,.string ⟨#[]⟩,.slice none 0 0,.int .i64 0,.slice none 0 0,.slice none 0 0] 42 (0,0))) := hid ((kS1.2 _ (by omega) (by simp)).trans hR1)
 have HW2 := hid ((HW1.out.trans (hb1.mono (by omega))).trans (Kpt.below kS1 (fun x hx => by simp at hx; omega) (by omega)))
 have hge1 : w.heap.size + 2 <= y1.heap.size := by omega
 clear hy1 hX1 hR1 hr1 hb1 ho1 kS1 hsx1 hsy1 a1_l a1_4 a1_z4 a1_5 a1_z5 v1l v14 v1z4
 clear HX1 HRX1 HW1 hge0
 obtain ⟨v2l,v2c,v2f⟩ := boxN HX2.out
 have v25 := v2c 5 _ rfl
 have v2z5 := v2f 5
 simp only [Nat.zero_add] at v25
 clear v2c v2f
 have hr2 := HM.out.any (sP.grow _) HW2.out
 go_upto_region 4 with (go_at_call 78; refine (cl_mth _ _ _ _ _ hr2 hl4).mono ?_; rintro _ x2 ⟨p2,n2,c2,rfl,ho2,hb2⟩; have hX2 : x2.heap[w.heap.size]? = some (.cells #[.string c.name,.string c.super,.slice p0 n0 c0,.int .i64 c.kind,.slice p1 n1 c1,.slice pm nm cm] 42 (0,0)) := (hb2.block _ (by omega)).trans HX2.out; have hR2 : x2.heap[w.heap.size + 1]? = some (.cells #[.string ⟨#[]⟩,.string ⟨#[]⟩,.slice none 0 0,.int .i64 0,.slice none 0 0,.slice none 0 0] 42 (0,0)) := (hb2.block _ (by omega)).trans HRX2.out; obtain ⟨a2_l,a2_c,a2_f⟩ := boxN hX2; have a2_5 := a2_c 5 _ rfl; have a2_z5 := a2_f 5; simp only [Nat.zero_add] at a2_5; clear a2_c a2_f)
 obtain ⟨y2,hy2⟩ : ∃ x,x = x2.setCell ⟨w.heap.size,5,none⟩ (.slice p2 n2 c2) := ⟨_,rfl⟩
 rw [<- hy2]
 have kS2 : Kpt [w.heap.size] x2 y2 := by rw [hy2]; exact Kpt.set _ _ _ _ _ (by simp)
 have HX3 : Hid (y2.heap[w.heap.size]? = some (.cells #[.string c.name,.string c.super,.slice p0 n0 c0,.int .i64 c.kind,.slice p1 n1 c1,.slice p2 n2 c2] 42 (0,0))) := hid (by rw [hy2,heap_setCell_same _ _ 5 _ _ _ hX2]; rfl)
 have hsx2 := hb2.size
 have hsy2 := kS2.size
 have HDJ0 := hid (show ∀ g,(Value.slice p0 n0 c0).ownBlock = some g -> (Value.slice p2 n2 c2).ownBlock ≠ some g from fun g e e2 => by have h1 := (HO0.out.lt g e).2; have h2 := (ho2.lt g e2).1; omega)
 have HDJ1 := hid (show ∀ g,(Value.slice p1 n1 c1).ownBlock = some g -> (Value.slice p2 n2 c2).ownBlock ≠ some g from fun g e e2 => by have h1 := (HO1.out.lt g e).2; have h2 := (ho2.lt g e2).1; omega)
 have HO2 := hid ((ho2.kptS kS2 (fun g e => by have := (ho2.lt g e).1; simp; omega)).mono (sP.grow _) (B' := w.heap.size + 2) (by omega))
 replace HO0 := hid ((HO0.out.kptS (.of_below hb2 : Kpt [] _ _) (fun _ _ => by simp)).kptS kS2 (fun g e => by have := (HO0.out.lt g e).1; simp; omega))
 replace HO1 := hid ((HO1.out.kptS (.of_below hb2 : Kpt [] _ _) (fun _ _ => by simp)).kptS kS2 (fun g e => by have := (HO1.out.lt g e).1; simp; omega))
 have HRX3 : Hid (y2.heap[w.heap.size + 1]? = some (.cells #[.string ⟨#[]⟩,.string ⟨#[]⟩,.slice none 0 0,.int .i64 0,.slice none 0 0,.slice none 0 0] 42 (0,0))) := hid ((kS2.2 _ (by omega) (by simp)).trans hR2)
 have HW3 := hid ((HW2.out.trans (hb2.mono (by omega))).trans (Kpt.below kS2 (fun x hx => by simp at hx; omega) (by omega)))
 have hge2 : w.heap.size + 2 <= y2.heap.size := by omega
 clear hy2 hX2 hR2 hr2 hb2 ho2 kS2 hsx2 hsy2 a2_l a2_5 a2_z5 v2l v25 v2z5
 clear HX2 HRX2 HW2 hge1
 obtain ⟨v3l,v3c,v3f⟩ := boxN HX3.out
 have v35 := v3c 5 _ rfl
 have v3z5 := v3f 5
 simp only [Nat.zero_add] at v35
 clear v3c v3f
 clear HXK HXR HA HI HF HM
 obtain ⟨N,hN⟩ : ∃ N,N = rs0.length := ⟨_,rfl⟩
 obtain rfl : n2 = N := by obtain ⟨p,cap,e,-⟩ := (HO2.out.rd (sP.grow _)).len; simp only [Value.slice.injEq] at e; rw [e.2.1,hN]
 have hNm : c.methods.length = n2 := by rw [hN,HM2.out.len]
 have HN := hid hN
 rw [<- hN] at hl4
 clear hN hl1 hl2 hl3
 go_wp2_with fail
 go_loopw [20] (fun v wr => ∃ (i : Nat) (rs' : List (Raw 9)),v = .int .i64 (i : Int) /\ i <= n2 /\ rs'.length = n2 /\ Hid (OwnX 9 49 (sP rawC) wr (w.heap.size + 2) (.slice p2 n2 c2) rs') /\ Hid (All2 (fun r m => mO (fun b => w.heap.size + 2 <= b /\ (Value.slice p2 n2 c2).ownBlock ≠ some b) wr (rawC r) m) (rs'.take i) (c.methods.take i)) /\ Hid (rs'.drop i = rs0.drop i) /\ Hid (Kpt (Value.slice p2 n2 c2).ownBlock.toList y2 wr)) (fun v _ => n2 - (intOf v).toNat)
 case atStart => exact ⟨0,rs0,rfl,by omega,HN.out.symm,HO2,hid (by rw [List.take_zero,List.take_zero]; trivial),hid rfl,hid (Kpt.refl _ _)⟩
 case round =>
  obtain ⟨i,rs',rfl,hin,hlr,HO,HT,HDR,HK⟩ := hrel
  have hbx : wr.heap[w.heap.size]? = _ := (HK.out.2 _ (by omega) (fun hx => by simp at hx; have := (HO2.out.lt _ hx).1; omega)).trans HX3.out
  have hrx : wr.heap[w.heap.size + 1]? = _ := (HK.out.2 _ (by omega) (fun hx => by simp at hx; have := (HO2.out.lt _ hx).1; omega)).trans HRX3.out
  have hwr := HK.out.size
  have HBX := hid hbx
  have HRX := hid hrx
  clear hbx hrx v3l v35 v3z5
  by_cases hlt : i < n2
  ·obtain ⟨r,hr⟩ : ∃ r,rs'[i]? = some r := ⟨_,List.getElem?_eq_getElem (by omega)⟩
   obtain ⟨m,hmi⟩ : ∃ m,c.methods[i]? = some m := ⟨_,List.getElem?_eq_getElem (by omega)⟩
   have hr0 : rs0[i]? = some r := by have := congrArg (·[0]?) HDR.out; simp only [List.getElem?_drop,Nat.add_zero] at this; rw [<- this,hr]
   obtain ⟨r2,hr2,hmp⟩ := HM2.out.at i m hmi
   rw [hr0] at hr2
   cases hr2
   obtain ⟨vp,vc,vh,er,k1,k2,k3⟩ := hmp
   obtain ⟨pp,cp,rfl,-⟩ := id k1
   obtain ⟨pc,cc,rfl,-⟩ := id k2
   obtain ⟨ph,ch,rfl,-⟩ := id k3
   obtain ⟨q1,q2,q3⟩ := HLM.out m (List.mem_of_getElem? hmi)
   obtain ⟨gm,cap,hv,-,hBg,hgl,hfz,hcl,-⟩ := HO.out.put9 hr er
   simp only [Value.slice.injEq] at hv
   obtain ⟨rfl,-,rfl⟩ := hv
   rw [er] at hcl
   have m0 := hcl 0 _ rfl
   have m1 := hcl 1 _ rfl
   have m2 := hcl 2 _ rfl
   have m3 := hcl 3 _ rfl
   have m4 := hcl 4 _ rfl
   have m5 := hcl 5 _ rfl
   have m6 := hcl 6 _ rfl
   have m7 := hcl 7 _ rfl
   have m8 := hcl 8 _ rfl
   simp only [Nat.add_zero] at m0
   clear hcl
   have HMI := hid hmi
   have HR := hid hr
   have HER := hid er
   have HK1 := hid k1
   have HK2 := hid k2
   have HK3 := hid k3
   clear hmi hr er k1 k2 k3 hr0 hfz
   go_upto_region 7 with fail
   obtain ⟨wa,hwa⟩ : ∃ x,x = wr.alloc (.cells #[.string m.name,.slice pp m.params.length cp,.int .i64 m.ret.1,.string m.ret.2,.bool m.st,.bool m.ab,.int .i64 m.locals,.slice pc m.code.length cc,.slice ph m.hs.length ch] 49) := ⟨_,rfl⟩
   rw [<- hwa]
   have hba : Below wr.heap.size wr wa := by rw [hwa]; exact below_alM _ _
   have hsa : wa.heap.size = wr.heap.size + 1 := by rw [hwa]; simp
   have HMB : Hid (wa.heap[wr.heap.size]? = some (.cells #[.string m.name,.slice pp m.params.length cp,.int .i64 m.ret.1,.string m.ret.2,.bool m.st,.bool m.ab,.int .i64 m.locals,.slice pc m.code.length cc,.slice ph m.hs.length ch] 49 (0,0))) := hid (by rw [hwa]; exact heap_alloc_new _ _)
   clear hwa
   have HBA := hid ((hba.block _ (by omega)).trans HBX.out)
   have HWA : Hid (Below w.heap.size w wa) := hid ((HW3.out.trans (Kpt.below HK.out (fun x hx => by simp at hx; have := (HO2.out.lt _ hx).1; omega) (by omega))).trans (hba.mono (by omega)))
   have HBa := hid hba
   clear hba m0 m1 m2 m3 m4 m5 m6 m7 m8
   refine wp_region_grow (by kernel_rfl) 5 1 [25,26,27,28,29] [(1,.pointer (some ⟨w.heap.size,0,none⟩)),(3,.int .i64 (i : Int)),(4,.pointer (some ⟨wr.heap.size,0,none⟩))] fccL fccC (fccF w.heap.size gm n2 c2 i cp cc ch m.params.length m.code.length m.hs.length pp pc ph m) _ rfl (by kernel_rfl) (by intro x hx; simp only [List.mem_cons,List.not_mem_nil,or_false] at hx; rcases hx with rfl | rfl | rfl <;> rfl) (fcc_mono w.heap.size gm n2 c2 i cp cc ch m.params.length m.code.length m.hs.length pp pc ph m) (all5 ?_ ?_ ?_ ?_ ?_) ?_
   ·intro o ho g w2 hb hf hr hd
    simp only [List.getElem?_toArray,List.getElem?_cons_succ,List.getElem?_cons_zero,Option.some.injEq] at ho
    subst ho
    have ec : ∀ v,evL [(1,.pointer (some ⟨w.heap.size,0,none⟩)),(3,.int .i64 (i : Int)),(4,.pointer (some ⟨wr.heap.size,0,none⟩))] (fccL 0) g (.const v) = v := fun _ => rfl
    unfold Yld
    go_simp
    exact ⟨Below.refl _ _,rfl⟩
   ·intro o ho g w2 hb hf hr hd
    simp only [List.getElem?_toArray,List.getElem?_cons_succ,List.getElem?_cons_zero,Option.some.injEq] at ho
    subst ho
    have f0 := hf 0 (by decide) (by rfl)
    replace f0 : (g 0).1 = .pointer (some ⟨w.heap.size,5,none⟩) := f0
    replace f0 : (g 0).1 = .pointer (some ⟨w.heap.size,5,none⟩) := f0
    have e0 : evL [(1,.pointer (some ⟨w.heap.size,0,none⟩)),(3,.int .i64 (i : Int)),(4,.pointer (some ⟨wr.heap.size,0,none⟩))] (fccL 1) g (.tmp 25) = (g 0).1 := rfl
    rw [f0] at e0
    have ec : ∀ v,evL [(1,.pointer (some ⟨w.heap.size,0,none⟩)),(3,.int .i64 (i : Int)),(4,.pointer (some ⟨wr.heap.size,0,none⟩))] (fccL 1) g (.const v) = v := fun _ => rfl
    unfold Yld
    have hx1 : w2.heap[w.heap.size]? = _ := (hb.block _ (by omega)).trans HBA.out
    obtain ⟨vl,vc,vf⟩ := boxN hx1
    have v5 := vc 5 _ rfl
    simp only [Nat.zero_add] at v5
    clear vc vf
    go_simp
    exact ⟨Below.refl _ _,rfl⟩
   ·intro o ho g w2 hb hf hr hd
    simp only [List.getElem?_toArray,List.getElem?_cons_succ,List.getElem?_cons_zero,Option.some.injEq] at ho
    subst ho
    have x3 : evL [(1,.pointer (some ⟨w.heap.size,0,none⟩)),(3,.int .i64 (i : Int)),(4,.pointer (some ⟨wr.heap.size,0,none⟩))] (fccL 2) g (.tmp 3) = .int .i64 (i : Int) := rfl
    have ec : ∀ v,evL [(1,.pointer (some ⟨w.heap.size,0,none⟩)),(3,.int .i64 (i : Int)),(4,.pointer (some ⟨wr.heap.size,0,none⟩))] (fccL 2) g (.const v) = v := fun _ => rfl
    unfold Yld
    go_simp
    exact ⟨Below.refl _ _,rfl⟩
   ·intro o ho g w2 hb hf hr hd
    simp only [List.getElem?_toArray,List.getElem?_cons_succ,List.getElem?_cons_zero,Option.some.injEq] at ho
    subst ho
    have x4 : evL [(1,.pointer (some ⟨w.heap.size,0,none⟩)),(3,.int .i64 (i : Int)),(4,.pointer (some ⟨wr.heap.size,0,none⟩))] (fccL 3) g (.tmp 4) = .pointer (some ⟨wr.heap.size,0,none⟩) := rfl
    have ec : ∀ v,evL [(1,.pointer (some ⟨w.heap.size,0,none⟩)),(3,.int .i64 (i : Int)),(4,.pointer (some ⟨wr.heap.size,0,none⟩))] (fccL 3) g (.const v) = v := fun _ => rfl
    unfold Yld
    have hx1 : w2.heap[wr.heap.size]? = _ := (hb.block _ (by omega)).trans HMB.out
    obtain ⟨vl,vc,vf⟩ := boxN hx1
    have v0 := vc 0 _ rfl
    have v1 := vc 1 _ rfl
    have v2 := vc 2 _ rfl
    have v3 := vc 3 _ rfl
    have v4 := vc 4 _ rfl
    have v5 := vc 5 _ rfl
    have v6 := vc 6 _ rfl
    have v7 := vc 7 _ rfl
    have v8 := vc 8 _ rfl
    simp only [Nat.zero_add] at v0 v1 v2 v3 v4 v5 v6 v7 v8
    clear vc vf
    go_simp
    exact ⟨Below.refl _ _,rfl⟩
   ·intro o ho g w2 hb hf hr hd
    simp only [List.getElem?_toArray,List.getElem?_cons_succ,List.getElem?_cons_zero,Option.some.injEq] at ho
    subst ho
    have f3 := hf 3 (by decide) (by rfl)
    replace f3 : (g 3).1 = .agg #[.string m.name,.slice pp m.params.length cp,.int .i64 m.ret.1,.string m.ret.2,.bool m.st,.bool m.ab,.int .i64 m.locals,.slice pc m.code.length cc,.slice ph m.hs.length ch] := f3
    replace f3 : (g 3).1 = .agg #[.string m.name,.slice pp m.params.length cp,.int .i64 m.ret.1,.string m.ret.2,.bool m.st,.bool m.ab,.int .i64 m.locals,.slice pc m.code.length cc,.slice ph m.hs.length ch] := f3
    have e3 : evL [(1,.pointer (some ⟨w.heap.size,0,none⟩)),(3,.int .i64 (i : Int)),(4,.pointer (some ⟨wr.heap.size,0,none⟩))] (fccL 4) g (.tmp 28) = (g 3).1 := rfl
    rw [f3] at e3
    have ec : ∀ v,evL [(1,.pointer (some ⟨w.heap.size,0,none⟩)),(3,.int .i64 (i : Int)),(4,.pointer (some ⟨wr.heap.size,0,none⟩))] (fccL 4) g (.const v) = v := fun _ => rfl
    unfold Yld
    go_simp
    refine (copym_t m pp pc ph _ cp _ cc _ ch (ok := ok) w2 (HK1.out.any (sP.grow _) (HWA.out.trans ((below_drU wa).trans hb |>.mono (by omega)))) (HK2.out.any (sP.grow _) (HWA.out.trans ((below_drU wa).trans hb |>.mono (by omega)))) (HK3.out.any (sP.grow _) (HWA.out.trans ((below_drU wa).trans hb |>.mono (by omega)))) q1 q2 q3).mono ?_
    rintro e w' ⟨r1,r2,r3,r4,r5,r6,r7,r8,r9,rfl,hmo,hbx⟩
    exact ⟨_,rfl,hbx,r1,r2,r3,r4,r5,r6,r7,r8,r9,rfl,mO.grow _ _ _ _ _ _ hmo (fun b h1 h2 => ⟨h1,h2⟩) (fun _ _ _ => rfl) (Nat.le_refl _)⟩
   ·intro fuel g w2 hb hf hr hd
    have f1 : (g 1).1 = .slice (some ⟨gm,0,none⟩) n2 c2 := hf 1 (by decide)
    have f2 : (g 2).1 = .int .i64 (i : Int) := hf 2 (by decide)
    have f4 : ∃ r1 r2 r3 r4 r5 r6 r7 r8 r9,(g 4).1 = .agg #[.string m.name,.slice r1 r2 r3,.int .i64 m.ret.1,.string m.ret.2,.bool m.st,.bool m.ab,.int .i64 m.locals,.slice r4 r5 r6,.slice r7 r8 r9] /\ mO (inR (g 4)) w2 [.string m.name,.slice r1 r2 r3,.int .i64 m.ret.1,.string m.ret.2,.bool m.st,.bool m.ab,.int .i64 m.locals,.slice r4 r5 r6,.slice r7 r8 r9] m := hf 4 (by decide)
    obtain ⟨r1,r2,r3,r4,r5,r6,r7,r8,r9,f4,hm4⟩ := f4
    have qq := hr 4 (by decide)
    clear hf hr hd
    have hbw : Below wr.heap.size wr w2 := HBa.out.trans (((below_drU wa).trans hb).mono (by omega))
    have hO2 := HO.out.kptS (.of_below hbw : Kpt [] wr w2) (fun _ _ => by simp)
    obtain ⟨r',er'⟩ : ∃ r : Raw 9,rawC r = [.string m.name,.slice r1 r2 r3,.int .i64 m.ret.1,.string m.ret.2,.bool m.st,.bool m.ab,.int .i64 m.locals,.slice r4 r5 r6,.slice r7 r8 r9] := ⟨⟨_,shape_mO _ _ _ _ hm4⟩,rfl⟩
    rw [<- er'] at hm4
    obtain ⟨g',k',hv',-,-,-,hfz,hcl,hO3⟩ := hO2.put9 HR.out er'
    simp only [Value.slice.injEq,Option.some.injEq,Addr.mk.injEq,and_true] at hv'
    obtain ⟨rfl,-,rfl⟩ := hv'
    rw [HER.out] at hcl
    have m0 := hcl 0 _ rfl
    have z0 := hfz (i * 9)
    have m1 := hcl 1 _ rfl
    have z1 := hfz (i * 9 + 1)
    have m2 := hcl 2 _ rfl
    have z2 := hfz (i * 9 + 2)
    have m3 := hcl 3 _ rfl
    have z3 := hfz (i * 9 + 3)
    have m4 := hcl 4 _ rfl
    have z4 := hfz (i * 9 + 4)
    have m5 := hcl 5 _ rfl
    have z5 := hfz (i * 9 + 5)
    have m6 := hcl 6 _ rfl
    have z6 := hfz (i * 9 + 6)
    have m7 := hcl 7 _ rfl
    have z7 := hfz (i * 9 + 7)
    have m8 := hcl 8 _ rfl
    have z8 := hfz (i * 9 + 8)
    simp only [Nat.add_zero] at m0 hO3
    clear hcl hfz
    have HO3 := hid hO3
    have HM4 := hid hm4
    have HBW := hid hbw
    have HER2 := hid er'
    clear hO2 hO3 hm4 hbw er'
    have e5 : (i : Int) < (n2 : Int) := by omega
    have e6 : (0 : Int) <= (i : Int) := by omega
    refine wpAny_of_held (S := fun _ => True) _ _ _ _ ?_
    refine rdH [5] ?_
    refine rcH (fun K hK => ?_) AllReadyH.nil
    simp only [fillT,f1,f2,f4]
    try go_frame
    go_simp
    refine hK.out _ _ trivial (fun _ => ?_)
    clear hK K
    try go_frame
    refine rdH [6] ?_
    refine rcH (fun K hK => ?_) AllReadyH.nil
    go_simp
    refine hK.out _ _ trivial (fun _ => ?_)
    clear hK K
    try go_frame
    refine wpAnyH_done (by kernel_rfl) ?_ _
    go_wp2_with fail
    go_roundw
    case rel =>
     have hk9 := fun {o0 o1 o2 o3 o4 o5 o6 o7 o8 : Nat} {v0 v1 v2 v3 v4 v5 v6 v7 v8 : Value} => kset9 w2 gm o0 o1 o2 o3 o4 o5 o6 o7 o8 v0 v1 v2 v3 v4 v5 v6 v7 v8
     skip
     refine ⟨i + 1,_,by go_num,by omega,by rw [List.length_set]; exact hlr,HO3,hid ?_,hid ?_,hid ?_⟩
     ·rw [take_set_next (by omega),take_next HMI.out]
      refine (HT.out.imp (fun r q h => mO.grow _ _ _ _ _ _ (mO.grow _ _ _ _ _ _ h (fun _ h _ => h) (.of_below HBW.out) HBW.out.size) (fun _ h _ => h) (.of_kpt hk9 (fun b hb => by simp; rintro rfl; exact hb.2 rfl)) hk9.size)).app ⟨?_,trivial⟩
      exact mO.grow _ _ _ _ _ _ HM4.out (fun b hb _ => by have h1 : (g 4).2.1 <= b := hb.1; exact ⟨by omega,by simp [Value.ownBlock]; omega⟩) (.of_kpt hk9 (fun b hb => by have h1 : (g 4).2.1 <= b := hb.1; simp; omega)) hk9.size
     ·have := congrArg (List.drop 1) HDR.out
      simp only [List.drop_drop] at this
      rw [drop_set_next]
      exact this
     ·exact (HK.out.trans (.of_below HBW.out : Kpt [] wr w2) (fun _ h => by simp at h)).trans hk9 (fun x hx => .inl (by simp at hx; subst hx; simp [Value.ownBlock]))
    case measure => simp [intOf]; omega
  ·obtain rfl : i = n2 := by omega
   obtain ⟨ul,uc,uf⟩ := boxN HBX.out
   have u0 := uc 0 _ rfl
   have uz0 := uf 0
   have u1 := uc 1 _ rfl
   have uz1 := uf 1
   have u2 := uc 2 _ rfl
   have uz2 := uf 2
   have u3 := uc 3 _ rfl
   have uz3 := uf 3
   have u4 := uc 4 _ rfl
   have uz4 := uf 4
   have u5 := uc 5 _ rfl
   have uz5 := uf 5
   simp only [Nat.zero_add] at u0 u1 u2 u3 u4 u5
   clear uc uf
   obtain ⟨vl,vc,vf⟩ := boxN HRX.out
   have v0 := vc 0 _ rfl
   have vz0 := vf 0
   have v1 := vc 1 _ rfl
   have vz1 := vf 1
   have v2 := vc 2 _ rfl
   have vz2 := vf 2
   have v3 := vc 3 _ rfl
   have vz3 := vf 3
   have v4 := vc 4 _ rfl
   have vz4 := vf 4
   have v5 := vc 5 _ rfl
   have vz5 := vf 5
   simp only [Nat.zero_add] at v0 v1 v2 v3 v4 v5
   clear vc vf
   go_wp2_with fail
   have hk := fun {x0 x1 x2 x3 x4 x5 : Value} => (set6 (v0 := x0) (v1 := x1) (v2 := x2) (v3 := x3) (v4 := x4) (v5 := x5) HRX.out).2
   have hta : All2 (fun r m => mO (fun b => w.heap.size + 2 <= b /\ (Value.slice p2 i c2).ownBlock ≠ some b) wr (rawC r) m) rs' c.methods := by have := HT.out; rwa [List.take_of_length_le (by omega),List.take_of_length_le (by omega)] at this
   refine bodyPost_ret (v := .agg #[.string c.name,.string c.super,.slice p0 n0 c0,.int .i64 c.kind,.slice p1 n1 c1,.slice p2 i c2]) (by simp [results,Tryz.results36,go_sem,v0,v1,v2,v3,v4,v5]) rfl ⟨_,_,_,_,_,_,_,_,_,rfl,⟨_,_,_,rfl,?_,?_,rs',?_,?_⟩,?_⟩
   ·exact ((HO0.out.kptS HK.out (fun g e => by simp; exact HDJ0.out g e)).kptS hk (fun g e => by have := (HO0.out.lt g e).1; simp; omega)).ownR.step (fun b (hb : w.heap.size + 2 <= b) _ => (show w.heap.size <= b by omega)) (fun _ _ _ => rfl)
   ·exact ((HO1.out.kptS HK.out (fun g e => by simp; exact HDJ1.out g e)).kptS hk (fun g e => by have := (HO1.out.lt g e).1; simp; omega)).ownR.step (fun b (hb : w.heap.size + 2 <= b) _ => (show w.heap.size <= b by omega)) (fun _ _ _ => rfl)
   ·exact (HO.out.kptS hk (fun g e => by have := (HO.out.lt g e).1; simp; omega)).ownR.step (fun b (hb : w.heap.size + 2 <= b) _ => (show w.heap.size <= b by omega)) (fun _ _ _ => rfl)
   ·exact hta.imp (fun r q h => mO.grow _ _ _ _ _ _ h (fun b hb _ => (show w.heap.size <= b by have := hb.1; omega)) (.of_kpt hk (fun b hb => by have := hb.1; simp; omega)) hk.size)
   ·exact (HW3.out.trans (Kpt.below HK.out (fun x hx => by simp at hx; have := (HO2.out.lt _ hx).1; omega) (by omega))).trans (Kpt.below hk (fun x hx => by simp at hx; omega) (by omega))
end Go.Proofs.YtfpeakkbbfnhcaaGreat.R
namespace Go.Proofs.YtfpeakkbbfnhcaaGreat.R
open Go.RowKit Go.Proofs.YtfpeakkbbfnhcaaGreat.D Go.Proofs.YtfpeakkbbfnhcaaGreat.O Go.Proofs.YtfpeakkbbfnhcaaGreat.A
def FewC (c : Cls) : Prop := c.ifaces.length <= 1000000 /\ c.fields.length <= 1000000 /\ c.methods.length <= 1000000 /\ ∀ m ∈ c.methods,m.params.length <= 1000000 /\ m.code.length <= 1000000 /\ m.hs.length <= 1000000
theorem few_find {K : List Cls} (h : ∀ c ∈ K,FewC c) (n : ByteArray) : FewC ((findC K n).getD noC) := by
 unfold findC bltC
 cases bltS n with
 | some s => exact ⟨Nat.zero_le _,Nat.zero_le _,Nat.zero_le _,fun m hm => by cases hm⟩
 | none =>
  cases hc : K.find? (fun c => decide (c.name = n)) with
  | none => exact ⟨Nat.zero_le _,Nat.zero_le _,Nat.zero_le _,fun m hm => by cases hm⟩
  | some c => exact h c (List.mem_of_find?_eq_some hc)
theorem Class_t (ok : Nat -> Prop) (tb mt : Nat) (vs : Value) (K : List Cls) (n : ByteArray) (w : World) (h : TrW w ok tb mt vs K) (hn : n.size <= maxLen) (hf : ∀ c ∈ K,FewC c) :
  Calls Tryz.prog 202 #[.pointer (some ⟨tb,0,none⟩),.string n] w fun e w' => ∃ pi ni ci pf nf cf pm nm cm,e = .returned (.tuple #[.agg #[.string ((findC K n).getD noC).name,.string ((findC K n).getD noC).super,.slice pi ni ci,.int .i64 ((findC K n).getD noC).kind,.slice pf nf cf,.slice pm nm cm],.bool (findC K n).isSome]) /\
   cO (fun b => w.heap.size <= b) w' [.string ((findC K n).getD noC).name,.string ((findC K n).getD noC).super,.slice pi ni ci,.int .i64 ((findC K n).getD noC).kind,.slice pf nf cf,.slice pm nm cm] ((findC K n).getD noC) /\ Below w.heap.size w w' := by
 have HT := hid h
 have HF := hid (few_find hf n)
 clear h hf
 obtain ⟨w0,hw0⟩ : ∃ x,x = w.alloc (.cells #[.string ⟨#[]⟩,.string ⟨#[]⟩,.slice none 0 0,.int .i64 0,.slice none 0 0,.slice none 0 0] 42) := ⟨_,rfl⟩
 have HB0 : Hid (Below w.heap.size w w0) := hid (by rw [hw0]; exact below_alR _ _)
 have hs0 : w0.heap.size = w.heap.size + 1 := by rw [hw0]; simp
 have HX0 : Hid (w0.heap[w.heap.size]? = some (.cells #[.string ⟨#[]⟩,.string ⟨#[]⟩,.slice none 0 0,.int .i64 0,.slice none 0 0,.slice none 0 0] 42 (0,0))) := hid (by rw [hw0]; exact heap_alloc_new _ _)
 go_enter Tryz.func202,Tryz.ntmps202
 go_wp2_with fail
 rw [<- hw0]
 clear hw0
 refine (find_t ok tb mt vs K n w0 (HT.out.below HB0.out) hn).mono ?_
 rintro e w1 ⟨pi,ni,ci,pf,nf,cf,pm,nm,cm,rfl,k1,k2,k3,hb1⟩
 obtain ⟨c,hc⟩ : ∃ c,(findC K n).getD noC = c := ⟨_,rfl⟩
 rw [hc] at HF k1 k2 k3 ⊢
 have HC := hid hc
 clear hc
 obtain ⟨k,hk⟩ : ∃ k,(findC K n).isSome = k := ⟨_,rfl⟩
 rw [hk]
 have HK := hid hk
 clear hk
 have hX1 := (hb1.block _ (by omega)).trans HX0.out
 have hs1 := hb1.size
 have HB1 := hid (HB0.out.trans (hb1.mono (by omega)))
 have hb2 := hb1.trans ((below_alR w1 (.cells #[.string c.name,.string c.super,.slice pi ni ci,.int .i64 c.kind,.slice pf nf cf,.slice pm nm cm] 42)).mono hs1)
 have K1 := hid (k1.any (sP.grow _) hb2)
 have K2 := hid (k2.any (sP.grow _) hb2)
 have K3 := hid (k3.any mP.grow hb2)
 have HX1 := hid hX1
 clear hb1 hb2 HX0 k1 k2 k3 hX1
 go_wp2_with fail
 refine (copyc_t c pi pf pm ni ci nf cf nm cm _ K1.out K2.out K3.out HF.out.1 HF.out.2.1 HF.out.2.2.1 HF.out.2.2.2).mono ?_
 rintro e w3 ⟨qi,mi,di,qf,mf,df,qm,mm,dm,rfl,hco,hb3⟩
 have hX3 : w3.heap[w.heap.size]? = _ := (hb3.block _ (by simp; omega)).trans (((below_alR w1 _).block _ (by omega)).trans HX1.out)
 have hz3 := hb3.size
 simp only [World.size_alloc] at hz3
 have hb3' := HB1.out.trans (((below_alR w1 (.cells #[.string c.name,.string c.super,.slice pi ni ci,.int .i64 c.kind,.slice pf nf cf,.slice pm nm cm] 42)).trans (hb3.mono (by simp))).mono (by omega))
 have HB3 := hid hb3'
 have HCO := hid hco
 clear hb3 hb3' hco HX1 K1 K2 K3
 obtain ⟨xl,xc,xf⟩ := boxN hX3
 have x0 := xc 0 _ rfl
 have z0 := xf 0
 have x1 := xc 1 _ rfl
 have z1 := xf 1
 have x2 := xc 2 _ rfl
 have z2 := xf 2
 have x3 := xc 3 _ rfl
 have z3 := xf 3
 have x4 := xc 4 _ rfl
 have z4 := xf 4
 have x5 := xc 5 _ rfl
 have z5 := xf 5
 simp only [Nat.zero_add] at x0 x1 x2 x3 x4 x5
 clear xc xf
 go_wp2_with fail
 have hk := (set6 (v0 := .string c.name) (v1 := .string c.super) (v2 := .slice qi mi di) (v3 := .int .i64 c.kind) (v4 := .slice qf mf df) (v5 := .slice qm mm dm) hX3).2
 refine bodyPost_ret (v := .tuple #[.agg #[.string c.name,.string c.super,.slice qi mi di,.int .i64 c.kind,.slice qf mf df,.slice qm mm dm],.bool k]) (by simp [*,results,Tryz.results202,go_sem]) rfl ?_
 rw [HC.out,HK.out]
 refine ⟨_,_,_,_,_,_,_,_,_,rfl,?_,HB3.out.trans (hk.below (fun x hx => by simp at hx; omega) (by omega))⟩
 exact cO.grow _ _ _ _ _ _ HCO.out (fun b hb hl => by simp at hb; omega) (.of_kpt hk (fun b hb => by simp at hb ⊢; omega)) hk.size
end Go.Proofs.YtfpeakkbbfnhcaaGreat.R
