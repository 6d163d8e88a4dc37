/- Texts that the proof is made of, joined. No condition. -/
import Derived.Test.YtfpeakkbbfnhcaaGreatC135
import Derived.Test.YtfpeakkbbfnhcaaGreatC13H
set_option linter.unusedVariables false
set_option linter.unusedSimpArgs false
set_option maxRecDepth 100000
set_option maxHeartbeats 16000000
namespace Go.Proofs.YtfpeakkbbfnhcaaGreat.A
open Go.RowKit Go.Proofs.YtfpeakkbbfnhcaaGreat.D Go.Proofs.YtfpeakkbbfnhcaaGreat.O
abbrev Raw (sz : Nat) : Type := {l : List Value // l.length = sz /\ ∀ u ∈ l,u.oneCell' = true}
def rawC {sz : Nat} (r : Raw sz) : List Value := r.1
theorem rawC_len {sz : Nat} (r : Raw sz) : (rawC r).length = sz := r.2.1
theorem shape_raw (sz : Nat) : Shape (sP (rawC (sz := sz))) sz := fun _ _ _ x h => by cases h; exact x.2
def All2 {α β : Type} (R : α -> β -> Prop) : List α -> List β -> Prop
 | [],[] => True
 | a :: xs,b :: ys => R a b /\ All2 R xs ys
 | _,_ => False
theorem All2.len {α β : Type} {R : α -> β -> Prop} : ∀ {xs : List α} {ys : List β},All2 R xs ys -> xs.length = ys.length
 | [],[],_ => rfl
 | _ :: _,_ :: _,h => by rw [List.length_cons,List.length_cons,All2.len h.2]
 | [],_ :: _,h => h.elim
 | _ :: _,[],h => h.elim
theorem All2.at {α β : Type} {R : α -> β -> Prop} : ∀ {xs : List α} {ys : List β},All2 R xs ys -> ∀ (i : Nat) b,ys[i]? = some b -> ∃ a,xs[i]? = some a /\ R a b
 | [],[],_,i,b,h => by simp at h
 | a :: xs,b :: ys,h,0,b',e => by
  simp only [List.getElem?_cons_zero,Option.some.injEq] at e
  subst e
  exact ⟨a,rfl,h.1⟩
 | a :: xs,b :: ys,h,i + 1,b',e => by
  simp only [List.getElem?_cons_succ] at e ⊢
  exact All2.at h.2 i b' e
 | [],_ :: _,h,_,_,_ => h.elim
 | _ :: _,[],h,_,_,_ => h.elim
theorem All2.app {α β : Type} {R : α -> β -> Prop} : ∀ {xs xs' : List α} {ys ys' : List β},All2 R xs ys -> All2 R xs' ys' -> All2 R (xs ++ xs') (ys ++ ys')
 | [],_,[],_,_,h => h
 | _ :: _,_,_ :: _,_,h,h' => ⟨h.1,All2.app h.2 h'⟩
 | [],_,_ :: _,_,h,_ => h.elim
 | _ :: _,_,[],_,h,_ => h.elim
theorem All2.imp {α β : Type} {R S : α -> β -> Prop} (f : ∀ a b,R a b -> S a b) : ∀ {xs : List α} {ys : List β},All2 R xs ys -> All2 S xs ys
 | [],[],_ => trivial
 | _ :: _,_ :: _,h => ⟨f _ _ h.1,All2.imp f h.2⟩
 | [],_ :: _,h => h.elim
 | _ :: _,[],h => h.elim
theorem RdX.raw {α : Type} {sz : Nat} {P : Pv α} {ok : Nat -> Prop} {w : World} {v : Value} {rs : List (Raw sz)} {xs : List α} (h : RdX sz (sP rawC) ok w v rs) (ha : All2 (fun r x => P ok w (rawC r) x) rs xs) : RdX sz P ok w v xs := by
 obtain ⟨p,cap,rfl,h1,h2,h3⟩ := h
 rw [ha.len] at h1 ⊢
 refine ⟨p,cap,rfl,h1,h2,?_⟩
 rcases h3 with h3 | ⟨b,off,rfl,hb,hlt,hc⟩
 ·have := ha.len
  rw [h3] at this
  exact .inl (List.eq_nil_of_length_eq_zero this.symm)
 ·refine .inr ⟨b,off,rfl,hb,hlt,fun i x hx => ?_⟩
  obtain ⟨r,hr,hp⟩ := ha.at i x hx
  obtain ⟨vs,rfl,hcell⟩ := hc i r hr
  exact ⟨_,hp,hcell⟩
theorem step_appM {α : Type} {sz bytes : Nat} {T TS : TypeId} {z : Value} (hI : Inf T TS sz bytes z) {c : α -> List Value} (hS : Shape (sP c) sz) {w : World} {ops : Array Oper} {o : Oper} {a : Act} {K : Act -> World -> Prop} {Q : Exit -> Act -> World -> Prop} {E : Prop}
  (hw : Region.wanted o (yielded ops a.tmps) = true) (s x : Operand)
  (ho : o.op = .call { callee := .builtin .append,args := #[s,x],argTypes := #[TS,TS] })
  (B : Nat) (v : Value) (xs : List α) (hs : a.eval s = v) (hown : OwnX sz T (sP c) w B v xs) (g off n cap : Nat) (ys : List α) (hx : a.eval x = .slice (some ⟨g,off,none⟩) n cap) (hr : RdX sz (sP c) anyB w (.slice (some ⟨g,off,none⟩) n cap) ys)
  (hb : xs.length + ys.length <= 1000000) (hbase : B <= w.heap.size)
  (h : ∀ v' w',OwnX sz T (sP c) w' B v' (xs ++ ys) -> w.grownBy w' v.ownBlock -> (v'.ownBlock = v.ownBlock ∨ v'.ownBlock = some w.heap.size) -> K (a.put o.dst v') w') :
  if Region.wanted o (yielded ops a.tmps) = true then Oper.wp Tryz.prog o a w K Q else E := by
 rw [if_pos hw]
 obtain ⟨p',cap',e,h1,h2,h3⟩ := hr
 simp only [Value.slice.injEq] at e
 obtain ⟨rfl,rfl,rfl⟩ := e
 obtain ⟨v',w',hrun,g1,g2,g4⟩ := run_appX hI (sP.grow c) hS w B v xs ys hown ⟨g,off,none⟩ cap (fun i u hu => by
  rcases h3 with rfl | ⟨b,off',e,_,_,hc⟩
  ·simp at hu
  ·simp only [Option.some.injEq,Addr.mk.injEq,and_true] at e
   obtain ⟨rfl,rfl⟩ := e
   obtain ⟨vs,hv,hcell⟩ := hc i u hu
   refine ⟨vs,hv,fun j u hu => ?_⟩
   have := hcell j u hu
   unfold Addr.add
   split
   ·rename_i h0
    have e0 : off + i * sz + j = off := by omega
    rw [e0] at this
    exact this
   ·rw [Nat.add_assoc] at this
    exact this) hb hbase o.type
 unfold Oper.wp execOp
 simp only [ho,resolve,invoke,builtin,Sem.run_bind,Sem.run_pure,Result.andThen_ok,List.map_toArray,List.map_cons,List.map_nil,hs,hx]
 simp only [hrun]
 exact h v' w' g1 g2 g4
theorem OwnX.lits {α : Type} {sz : Nat} {T : TypeId} {c : α -> List Value} (hsz : ∀ x,(c x).length = sz) (w : World) (ys : List α) (cs : Array Value) (h : cs.toList = ys.flatMap c) (n : Nat) (hn : n = ys.length) (hm : n <= 1000000) :
  OwnX sz T (sP c) (w.alloc (.cells cs T)) w.heap.size (.slice (some ⟨w.heap.size,0,none⟩) n n) ys := by
 subst hn
 have hlen : ∀ l : List α,(l.flatMap c).length = l.length * sz := fun l => by
  induction l with
  | nil => simp
  | cons a l ih => rw [List.flatMap_cons,List.length_append,hsz,ih,List.length_cons,Nat.succ_mul,Nat.add_comm]
 have hcs : cs.size = ys.length * sz := by rw [<- Array.length_toList,h,hlen]
 refine ⟨cs.toList,⟨by rw [Array.length_toList,hcs],.inr ⟨_,_,cs,rfl,Nat.le_refl _,heap_alloc_new _ _,Nat.le_refl _,by unfold maxLen; omega,hcs,by rw [<- hcs,<- Array.length_toList,List.take_length]⟩⟩,fun i x hx => ?_⟩
 rw [h]
 have key : ∀ (l : List α) (i : Nat),l[i]? = some x -> ((l.flatMap c).drop (i * sz)).take sz = c x := by
  intro l
  induction l with
  | nil => intro i h; simp at h
  | cons a l ih =>
   intro i hi
   rw [List.flatMap_cons]
   cases i with
   | zero =>
    simp only [List.getElem?_cons_zero,Option.some.injEq] at hi
    subst hi
    rw [Nat.zero_mul,List.drop_zero,List.take_left' (hsz a)]
   | succ i =>
    rw [Nat.succ_mul,Nat.add_comm (i * sz) sz,<- List.drop_drop,List.drop_left' (hsz a)]
    exact ih i (by simpa using hi)
 exact key ys i hx
theorem below_alM (w : World) (o : Obj) : Below w.heap.size w (w.alloc o) := (Below.refl _ _).alloc (Nat.le_refl _) _
theorem typ_v (k : Int) (w : World) : Calls Tryz.prog 23 #[.int .i64 k] w fun e w' => e = .returned (.agg #[.int .i64 k,.string ⟨#[]⟩]) /\ Below w.heap.size w w' := by
 go_enter Tryz.func23,Tryz.ntmps23
 go_wp2
 exact bodyPost_ret (v := .agg #[.int .i64 k,.string ⟨#[]⟩]) (by simp [results,Tryz.results23,go_sem]) rfl ⟨rfl,(Below.refl _ _).alloc (Nat.le_refl _) _⟩
theorem ref_v (s : ByteArray) (w : World) : Calls Tryz.prog 32 #[.string s] w fun e w' => e = .returned (.agg #[.int .i64 4,.string s]) /\ Below w.heap.size w w' := by
 go_enter Tryz.func32,Tryz.ntmps32
 go_wp2
 exact bodyPost_ret (v := .agg #[.int .i64 4,.string s]) (by simp [results,Tryz.results32,go_sem]) rfl ⟨rfl,(Below.refl _ _).alloc (Nat.le_refl _) _⟩
theorem method_v (nm : ByteArray) (pp pc : Option Addr) (np cp nc cc : Nat) (k : Int) (c : ByteArray) (st : Bool) (lo : Int) (w : World) :
  Calls Tryz.prog 25 #[.string nm,.slice pp np cp,.agg #[.int .i64 k,.string c],.bool st,.int .i64 lo,.slice pc nc cc] w fun e w' =>
   e = .returned (.agg #[.string nm,.slice pp np cp,.int .i64 k,.string c,.bool st,.bool false,.int .i64 lo,.slice pc nc cc,.slice none 0 0]) /\ Below w.heap.size w w' := by
 go_enter Tryz.func25,Tryz.ntmps25
 go_wp2
 refine bodyPost_ret (v := .agg #[.string nm,.slice pp np cp,.int .i64 k,.string c,.bool st,.bool false,.int .i64 lo,.slice pc nc cc,.slice none 0 0]) (by simp [results,Tryz.results25,go_sem]) rfl ⟨rfl,?_⟩
 exact ((Below.refl _ _).alloc (Nat.le_refl _) _).alloc (by simp) _
def MAns (m : Mth) (w : World) (e : Ending) (w' : World) : Prop :=
 ∃ pp np cp pc nc cc ph nh ch,e = .returned (.agg #[.string m.name,.slice pp np cp,.int .i64 m.ret.1,.string m.ret.2,.bool m.st,.bool m.ab,.int .i64 m.locals,.slice pc nc cc,.slice ph nh ch]) /\
  RdX 2 (sP tyC) (fun b => w.heap.size <= b) w' (.slice pp np cp) m.params /\ RdX 7 (sP insC) (fun b => w.heap.size <= b) w' (.slice pc nc cc) m.code /\ RdX 4 (sP hndC) (fun b => w.heap.size <= b) w' (.slice ph nh ch) m.hs /\ Below w.heap.size w w'
theorem rd_lit_next {α : Type} {sz : Nat} {c : α -> List Value} {w w' : World} {cs : Array Value} {T : TypeId} (hb : Below (w.alloc (.cells cs T)).heap.size (w.alloc (.cells cs T)) w') (ys : List α) (h : cs.toList = ys.flatMap c) (hsz : ∀ x,(c x).length = sz) (ok : Nat -> Prop) (hok : ok w.heap.size) (n : Nat) (hn : n = ys.length) :
  RdX sz (sP c) ok w' (.slice (some ⟨w.heap.size,0,none⟩) n n) ys := by
 subst hn
 have h0 := rdX_lits hsz w ys cs T h
 obtain ⟨p,cap,e,h1,h2,h3⟩ := h0
 simp only [Value.slice.injEq] at e
 obtain ⟨rfl,-,rfl⟩ := e
 refine RdX.step (ok := ok) (sP.grow c) ⟨_,_,rfl,h1,h2,?_⟩ (fun _ h _ => h) (.of_below hb) hb.size
 rcases h3 with h3 | ⟨b,off,e,-,hlt,hc⟩
 ·exact .inl h3
 ·simp only [Option.some.injEq,Addr.mk.injEq,and_true] at e
  obtain ⟨rfl,rfl⟩ := e
  exact .inr ⟨_,_,rfl,hok,hlt,hc⟩
theorem clinit_v (s : ByteArray) (w : World) : Calls Tryz.prog 24 #[.string s] w (MAns (clinitS s) w) := by
 obtain ⟨w1,hw1⟩ : ∃ x,x = w.alloc (.cells #[.string ⟨#[]⟩,.slice none 0 0,.int .i64 0,.string ⟨#[]⟩,.bool false,.bool false,.int .i64 0,.slice none 0 0,.slice none 0 0] 49) := ⟨_,rfl⟩
 have hA : Below w.heap.size w w1 := by rw [hw1]; exact below_alM _ _
 have hx1 : w1.heap[w.heap.size]? = some (.cells #[.string ⟨#[]⟩,.slice none 0 0,.int .i64 0,.string ⟨#[]⟩,.bool false,.bool false,.int .i64 0,.slice none 0 0,.slice none 0 0] 49 (0,0)) := by rw [hw1]; exact heap_alloc_new _ _
 have hlt1 : w.heap.size < w1.heap.size := by rw [hw1]; simp
 have HX := hid hx1
 have HA := hid hA
 have HB := hid (Below.refl w1.heap.size w1)
 clear hx1 hA
 go_enter Tryz.func24,Tryz.ntmps24
 go_wp2_with fail
 rw [<- hw1]
 clear hw1
 go_wp2_with ((first | (go_at_call 27; refine (one_x _ _).mono ?_) | (go_at_call 28; refine (at_x _ _ _).mono ?_) | (go_at_call 60; refine (num_x _ _ (by omega)).mono ?_) | (go_at_call 61; refine (str_x _ _).mono ?_) | (go_at_call 26; refine (of_x _ _ _).mono ?_) | (go_at_call 66; refine (part_x _ _ _ _).mono ?_) | (go_at_call 65; refine (call_x _ _ _ _ _).mono ?_) | (go_at_call 23; refine (typ_v _ _).mono ?_) | (go_at_call 32; refine (ref_v _ _).mono ?_)); rintro e w' ⟨rfl,hb⟩; (first | replace HB := hid (HB.out.trans (hb.mono HB.out.size)) | replace HB := hid ((HB.out.alloc HB.out.size _).trans (hb.mono (by have := HB.out.size; simp; omega)))); clear hb)
 refine (method_v _ none _ 0 0 _ _ _ _ _ _ _).mono ?_
 rintro e w9 ⟨rfl,hb9⟩
 have HRC := hid (rd_lit_next hb9 [iStr s,iOne 41,iOne 40] rfl insC_len (fun b => w1.heap.size <= b) HB.out.size 3 rfl)
 replace HB := hid ((HB.out.alloc HB.out.size _).trans (hb9.mono (by have := HB.out.size; simp; omega)))
 have hx9 := (HB.out.block _ hlt1).trans HX.out
 obtain ⟨hl9,hcs9,hfz9⟩ := boxN hx9
 have y9_0 := hcs9 0 _ rfl
 have z9_0 := hfz9 0
 have y9_1 := hcs9 1 _ rfl
 have z9_1 := hfz9 1
 have y9_2 := hcs9 2 _ rfl
 have z9_2 := hfz9 2
 have y9_3 := hcs9 3 _ rfl
 have z9_3 := hfz9 3
 have y9_4 := hcs9 4 _ rfl
 have z9_4 := hfz9 4
 have y9_5 := hcs9 5 _ rfl
 have z9_5 := hfz9 5
 have y9_6 := hcs9 6 _ rfl
 have z9_6 := hfz9 6
 have y9_7 := hcs9 7 _ rfl
 have z9_7 := hfz9 7
 have y9_8 := hcs9 8 _ rfl
 have z9_8 := hfz9 8
 simp only [Nat.zero_add] at y9_0 y9_1 y9_2 y9_3 y9_4 y9_5 y9_6 y9_7 y9_8
 clear hcs9 hfz9 hb9
 go_wp2_with fail
 have hk := fun {x0 x1 x2 x3 x4 x5 x6 x7 x8 : Value} => (set9 (v0 := x0) (v1 := x1) (v2 := x2) (v3 := x3) (v4 := x4) (v5 := x5) (v6 := x6) (v7 := x7) (v8 := x8) hx9).2
 have hs9 : w.heap.size <= w9.heap.size := by omega
 refine bodyPost_ret (v := .agg #[.string ⟨#[99,108,105,110,105,116]⟩,.slice none 0 0,.int .i64 5,.string ⟨#[]⟩,.bool true,.bool false,.int .i64 0,.slice (some _) 3 3,.slice none 0 0]) (by simp [results,Tryz.results24,go_sem,y9_0,y9_1,y9_2,y9_3,y9_4,y9_5,y9_6,y9_7,y9_8]) rfl ⟨_,_,_,_,_,_,_,_,_,rfl,RdX.nil _ _ _ _,HRC.out.step (sP.grow _) (fun b (h : w1.heap.size <= b) _ => (show w.heap.size <= b by omega)) (.of_kpt hk (fun b hb => by simp; omega)) hk.size,RdX.nil _ _ _ _,?_⟩
 exact (HA.out.trans (HB.out.mono (Nat.le_of_lt hlt1))).trans (Kpt.below hk (fun x hx => by simp at hx; omega) hs9)
theorem num_yn (x n : Int) (w : World) (hx : x = n) (hn : -2147483648 <= n /\ n <= 2147483647) : Calls Tryz.prog 60 #[.int .i64 x] w fun e w' => e = .returned (.agg #[.int .i64 1,.int .i32 n,.int .i64 0,.string ⟨#[]⟩,.string ⟨#[]⟩,.string ⟨#[]⟩,.string ⟨#[]⟩]) /\ Below w.heap.size w w' := by
 subst hx
 exact num_x x w hn
def MBox (w : World) (tb : Nat) (vc : Value) : Prop := w.heap[tb]? = some (.cells #[.string ⟨#[114,117,110]⟩,.slice none 0 0,.int .i64 1,.string ⟨#[]⟩,.bool false,.bool false,.int .i64 1,vc,.slice none 0 0] 49 (0,0))
theorem MBox.cells {w : World} {tb : Nat} {vc : Value} (h : MBox w tb vc) : tb < w.heap.size /\ w.cell? ⟨tb,7,none⟩ = some vc /\ w.frozen? ⟨tb,7,none⟩ = false := by
 refine ⟨(Array.getElem?_eq_some_iff.1 h).1,?_,?_⟩
 ·simp [World.cell?,(show w.heap[tb]? = _ from h)]
 ·simp [World.frozen?,(show w.heap[tb]? = _ from h)]
theorem MBox.grown {w w' : World} {tb : Nat} {vc : Value} {r : Option Nat} (h : MBox w tb vc) (hg : w.grownBy w' r) (hr : ¬ r = some tb) : MBox w' tb vc := (hg.block _ h.cells.1 (fun e => hr e.symm)).trans h
theorem MBox.below {w w' : World} {tb : Nat} {vc : Value} (h : MBox w tb vc) (hb : Below w.heap.size w w') : MBox w' tb vc := (hb.block _ h.cells.1).trans h
theorem run_v (s : ByteArray) (n : Nat) (w : World) (hn : n < 256) : Calls Tryz.prog 64 #[.string s,.int .u8 (n : Int)] w (MAns (runS s n) w) := by
 obtain ⟨w1,hw1⟩ : ∃ x,x = w.alloc (.cells #[.string ⟨#[]⟩,.slice none 0 0,.int .i64 0,.string ⟨#[]⟩,.bool false,.bool false,.int .i64 0,.slice none 0 0,.slice none 0 0] 49) := ⟨_,rfl⟩
 have hA : Below w.heap.size w w1 := by rw [hw1]; exact below_alM _ _
 have hx1 : w1.heap[w.heap.size]? = some (.cells #[.string ⟨#[]⟩,.slice none 0 0,.int .i64 0,.string ⟨#[]⟩,.bool false,.bool false,.int .i64 0,.slice none 0 0,.slice none 0 0] 49 (0,0)) := by rw [hw1]; exact heap_alloc_new _ _
 have hlt1 : w.heap.size < w1.heap.size := by rw [hw1]; simp
 have HX := hid hx1
 have HA := hid hA
 have HB := hid (Below.refl w1.heap.size w1)
 clear hx1 hA
 go_enter Tryz.func64,Tryz.ntmps64
 go_wp2_with fail
 rw [<- hw1]
 clear hw1
 go_wp2_with ((first | (go_at_call 27; refine (one_x _ _).mono ?_) | (go_at_call 28; refine (at_x _ _ _).mono ?_) | (go_at_call 60; refine (num_x _ _ (by omega)).mono ?_) | (go_at_call 61; refine (str_x _ _).mono ?_) | (go_at_call 26; refine (of_x _ _ _).mono ?_) | (go_at_call 66; refine (part_x _ _ _ _).mono ?_) | (go_at_call 65; refine (call_x _ _ _ _ _).mono ?_) | (go_at_call 23; refine (typ_v _ _).mono ?_) | (go_at_call 32; refine (ref_v _ _).mono ?_)); rintro e w' ⟨rfl,hb⟩; (first | replace HB := hid (HB.out.trans (hb.mono HB.out.size)) | replace HB := hid ((HB.out.alloc HB.out.size _).trans (hb.mono (by have := HB.out.size; simp; omega)))); clear hb)
 refine (method_v _ none _ 0 0 _ _ _ _ _ _ _).mono ?_
 rintro e w9 ⟨rfl,hb9⟩
 have HRC := hid (rd_lit_next hb9 [iAt 4 0,iPart 26 ⟨#[66,97,115,101]⟩ ⟨#[120]⟩,iNum ((n : Int) % 5),iOne 8,iOne 39] rfl insC_len (fun b => w1.heap.size <= b) HB.out.size 5 rfl)
 replace HB := hid ((HB.out.alloc HB.out.size _).trans (hb9.mono (by have := HB.out.size; simp; omega)))
 obtain ⟨g,hg⟩ : ∃ g,g = w'.heap.size := ⟨_,rfl⟩
 rw [<- hg] at HRC ⊢
 obtain ⟨wT,hwT⟩ : ∃ x,x = w9.alloc (.cells #[.string ⟨#[114,117,110]⟩,.slice none 0 0,.int .i64 1,.string ⟨#[]⟩,.bool false,.bool false,.int .i64 1,.slice (some ⟨g,0,none⟩) 5 5,.slice none 0 0] 49) := ⟨_,rfl⟩
 have hbT : Below w9.heap.size w9 wT := by rw [hwT]; exact below_alM _ _
 have hT : MBox wT w9.heap.size (.slice (some ⟨g,0,none⟩) 5 5) := by rw [hwT]; exact heap_alloc_new _ _
 clear hg hb9
 have hq : n / 5 % 4 = 1 ∨ n / 5 % 4 = 2 ∨ (¬ n / 5 % 4 = 1 /\ ¬ n / 5 % 4 = 2) := by omega
 rcases hq with hq | hq | hq
 ·have hqi : (n : Int) / 5 % 4 = 1 := by omega
  go_wp2_with fail
  rw [<- hwT]
  obtain ⟨tb,htb⟩ : ∃ x,x = w9.heap.size := ⟨_,rfl⟩
  rw [<- htb] at hT ⊢
  have hTx : MBox wT.drew tb (.slice (some ⟨g,0,none⟩) 5 5) := hT
  have hbD : Below w9.heap.size w9 wT.drew := hbT.drew
  have hrx : RdX 7 (sP insC) anyB wT.drew (.slice (some ⟨g,0,none⟩) 5 5) [iAt 4 0,iPart 26 ⟨#[66,97,115,101]⟩ ⟨#[120]⟩,iNum ((n : Int) % 5),iOne 8,iOne 39] := HRC.out.step (sP.grow _) (fun _ _ _ => trivial) (.of_below hbD) hbD.size
  have hBx : Below w1.heap.size w1 wT.drew := HB.out.trans (hbD.mono HB.out.size)
  have hne : w1.heap.size <= tb := by rw [htb]; exact HB.out.size
  obtain ⟨t1,t2,t3⟩ := hTx.cells
  clear hT hwT htb hbT hbD HRC HB
  go_region_law (first
   | (refine step_appM inf_ins shape_ins (by rfl) _ _ (by rfl) wx.heap.size _ [iStr s,iOne 41] (by rfl) hol g 0 5 5 [iAt 4 0,iPart 26 ⟨#[66,97,115,101]⟩ ⟨#[120]⟩,iNum ((n : Int) % 5),iOne 8,iOne 39] (by rfl) hrc (by simp) (by simp) ?_; intro v3 w3 ho3 hg3 hl3; obtain ⟨p3,n3,c3,hv3⟩ := ho3.slice; subst hv3; have hT3 := hTc.grown hg3 (fun h => (by simp only [Value.ownBlock,Option.some.injEq] at h; omega)); obtain ⟨e1,e2,e3⟩ := hT3.cells)
   | (rw [if_pos (by rfl)]; go_simp; go_at_call 61; refine (str_x _ _).mono ?_; rintro e wx ⟨rfl,hbx⟩; replace hTx := hTx.below hbx; obtain ⟨t1,t2,t3⟩ := hTx.cells; replace hrx := hrx.any (sP.grow _) hbx; replace hBx := hBx.trans (hbx.mono hBx.size); clear hbx; have hTc := hTx.below (below_alM wx (.cells #[.int .i64 2,.int .i32 0,.int .i64 0,.string s,.string ⟨#[]⟩,.string ⟨#[]⟩,.string ⟨#[]⟩,.int .i64 41,.int .i32 0,.int .i64 0,.string ⟨#[]⟩,.string ⟨#[]⟩,.string ⟨#[]⟩,.string ⟨#[]⟩] 59)); obtain ⟨d1,d2,d3⟩ := hTc.cells; have hol := OwnX.lits (T := 59) insC_len wx [iStr s,iOne 41] #[.int .i64 2,.int .i32 0,.int .i64 0,.string s,.string ⟨#[]⟩,.string ⟨#[]⟩,.string ⟨#[]⟩,.int .i64 41,.int .i32 0,.int .i64 0,.string ⟨#[]⟩,.string ⟨#[]⟩,.string ⟨#[]⟩,.string ⟨#[]⟩] rfl 2 rfl (by decide); have hrc := hrx.any (sP.grow _) (below_alM wx (.cells #[.int .i64 2,.int .i32 0,.int .i64 0,.string s,.string ⟨#[]⟩,.string ⟨#[]⟩,.string ⟨#[]⟩,.int .i64 41,.int .i32 0,.int .i64 0,.string ⟨#[]⟩,.string ⟨#[]⟩,.string ⟨#[]⟩,.string ⟨#[]⟩] 59)))
   | (rw [if_pos (by rfl)]; go_simp; go_at_call 27; refine (one_x _ _).mono ?_; rintro e wx ⟨rfl,hbx⟩; replace hTx := hTx.below hbx; obtain ⟨t1,t2,t3⟩ := hTx.cells; replace hrx := hrx.any (sP.grow _) hbx; replace hBx := hBx.trans (hbx.mono hBx.size); clear hbx; have hTc := hTx.below (below_alM wx (.cells #[.int .i64 2,.int .i32 0,.int .i64 0,.string s,.string ⟨#[]⟩,.string ⟨#[]⟩,.string ⟨#[]⟩,.int .i64 41,.int .i32 0,.int .i64 0,.string ⟨#[]⟩,.string ⟨#[]⟩,.string ⟨#[]⟩,.string ⟨#[]⟩] 59)); obtain ⟨d1,d2,d3⟩ := hTc.cells; have hol := OwnX.lits (T := 59) insC_len wx [iStr s,iOne 41] #[.int .i64 2,.int .i32 0,.int .i64 0,.string s,.string ⟨#[]⟩,.string ⟨#[]⟩,.string ⟨#[]⟩,.int .i64 41,.int .i32 0,.int .i64 0,.string ⟨#[]⟩,.string ⟨#[]⟩,.string ⟨#[]⟩,.string ⟨#[]⟩] rfl 2 rfl (by decide); have hrc := hrx.any (sP.grow _) (below_alM wx (.cells #[.int .i64 2,.int .i32 0,.int .i64 0,.string s,.string ⟨#[]⟩,.string ⟨#[]⟩,.string ⟨#[]⟩,.int .i64 41,.int .i32 0,.int .i64 0,.string ⟨#[]⟩,.string ⟨#[]⟩,.string ⟨#[]⟩,.string ⟨#[]⟩] 59))))
  all_goals
   obtain ⟨wF,hwF⟩ : ∃ x,x = w3.setCell ⟨tb,7,none⟩ (.slice p3 n3 c3) := ⟨_,rfl⟩
   rw [<- hwF]
   have hkF : Kpt [tb] w3 wF := by rw [hwF]; exact Kpt.set _ _ _ _ _ (by simp)
   have hTF : MBox wF tb (.slice p3 n3 c3) := by rw [hwF]; exact (heap_setCell_same w3 tb 7 _ _ _ hT3).trans rfl
   have hrF : RdX 7 (sP insC) (fun b => w1.heap.size <= b) wF (.slice p3 n3 c3) ([iStr s,iOne 41] ++ [iAt 4 0,iPart 26 ⟨#[66,97,115,101]⟩ ⟨#[120]⟩,iNum ((n : Int) % 5),iOne 8,iOne 39]) := (ho3.rd (sP.grow _)).step (sP.grow _) (fun b h _ => by show w1.heap.size <= b; have h' : wx.heap.size <= b := h; have := hBx.size; omega) (.of_kpt hkF (fun b h => by have h' : wx.heap.size <= b := h; simp; omega)) hkF.size
   have hBF : Below w1.heap.size w1 wF := (hBx.trans (((below_alM wx _).mono hBx.size).trans ⟨hg3.os,hg3.tape,hg3.output,hg3.size,fun k hk => hg3.block k (by have := hBx.size; simp; omega) (fun h => by simp only [Value.ownBlock,Option.some.injEq] at h; have := hBx.size; omega)⟩)).trans (hkF.below (fun x hx => by simp at hx; omega) (by have h1 := hBx.size; have h2 := hg3.size; simp at h2; omega))
   clear hwF hkF hg3 hl3 ho3 hT3 hol hrc hTx hrx hBx hTc
   have hxF := (hBF.block _ hlt1).trans HX.out
   obtain ⟨hl9,hcs9,hfz9⟩ := boxN hxF
   have y9_0 := hcs9 0 _ rfl
   have z9_0 := hfz9 0
   have y9_1 := hcs9 1 _ rfl
   have z9_1 := hfz9 1
   have y9_2 := hcs9 2 _ rfl
   have z9_2 := hfz9 2
   have y9_3 := hcs9 3 _ rfl
   have z9_3 := hfz9 3
   have y9_4 := hcs9 4 _ rfl
   have z9_4 := hfz9 4
   have y9_5 := hcs9 5 _ rfl
   have z9_5 := hfz9 5
   have y9_6 := hcs9 6 _ rfl
   have z9_6 := hfz9 6
   have y9_7 := hcs9 7 _ rfl
   have z9_7 := hfz9 7
   have y9_8 := hcs9 8 _ rfl
   have z9_8 := hfz9 8
   simp only [Nat.zero_add] at y9_0 y9_1 y9_2 y9_3 y9_4 y9_5 y9_6 y9_7 y9_8
   obtain ⟨hlm,hcm,-⟩ := boxN (show wF.heap[tb]? = _ from hTF)
   have m9_0 := hcm 0 _ rfl
   have m9_1 := hcm 1 _ rfl
   have m9_2 := hcm 2 _ rfl
   have m9_3 := hcm 3 _ rfl
   have m9_4 := hcm 4 _ rfl
   have m9_5 := hcm 5 _ rfl
   have m9_6 := hcm 6 _ rfl
   have m9_7 := hcm 7 _ rfl
   have m9_8 := hcm 8 _ rfl
   simp only [Nat.zero_add] at m9_0 m9_1 m9_2 m9_3 m9_4 m9_5 m9_6 m9_7 m9_8
   have HC : Hid ((runS s n).code = [iStr s,iOne 41] ++ [iAt 4 0,iPart 26 ⟨#[66,97,115,101]⟩ ⟨#[120]⟩,iNum ((n : Int) % 5),iOne 8,iOne 39]) := hid (by unfold runS mthS; simp [hq])
   have HRF := hid hrF
   have HBF := hid hBF
   have HXF := hid hxF
   clear hcs9 hfz9 hcm hrF hBF hTF hxF
   go_wp2_with fail
   have hk := fun {x0 x1 x2 x3 x4 x5 x6 x7 x8 : Value} => (set9 (v0 := x0) (v1 := x1) (v2 := x2) (v3 := x3) (v4 := x4) (v5 := x5) (v6 := x6) (v7 := x7) (v8 := x8) HXF.out).2
   have hs9 : w.heap.size <= wF.heap.size := by omega
   refine bodyPost_ret (v := .agg #[.string ⟨#[114,117,110]⟩,.slice none 0 0,.int .i64 1,.string ⟨#[]⟩,.bool false,.bool false,.int .i64 1,.slice p3 n3 c3,.slice none 0 0]) (by simp [results,Tryz.results64,go_sem,y9_0,y9_1,y9_2,y9_3,y9_4,y9_5,y9_6,y9_7,y9_8]) rfl ⟨_,_,_,_,_,_,_,_,_,rfl,RdX.nil _ _ _ _,by rw [HC.out]; exact HRF.out.step (sP.grow _) (fun b (h : w1.heap.size <= b) _ => (show w.heap.size <= b by omega)) (.of_kpt hk (fun b hb => by simp; omega)) hk.size,RdX.nil _ _ _ _,?_⟩
   exact (HA.out.trans (HBF.out.mono (Nat.le_of_lt hlt1))).trans (Kpt.below hk (fun x hx => by simp at hx; omega) hs9)
 ·have hqi : (n : Int) / 5 % 4 = 2 := by omega
  go_wp2_with fail
  rw [<- hwT]
  obtain ⟨tb,htb⟩ : ∃ x,x = w9.heap.size := ⟨_,rfl⟩
  rw [<- htb] at hT ⊢
  have hTx : MBox wT.drew tb (.slice (some ⟨g,0,none⟩) 5 5) := hT
  have hbD : Below w9.heap.size w9 wT.drew := hbT.drew
  have hrx : RdX 7 (sP insC) anyB wT.drew (.slice (some ⟨g,0,none⟩) 5 5) [iAt 4 0,iPart 26 ⟨#[66,97,115,101]⟩ ⟨#[120]⟩,iNum ((n : Int) % 5),iOne 8,iOne 39] := HRC.out.step (sP.grow _) (fun _ _ _ => trivial) (.of_below hbD) hbD.size
  have hBx : Below w1.heap.size w1 wT.drew := HB.out.trans (hbD.mono HB.out.size)
  have hne : w1.heap.size <= tb := by rw [htb]; exact HB.out.size
  obtain ⟨t1,t2,t3⟩ := hTx.cells
  clear hT hwT htb hbT hbD HRC HB
  go_region_law (first
   | (refine step_appM inf_ins shape_ins (by rfl) _ _ (by rfl) wx.heap.size _ [iAt 4 0,iNum 9,iPart 27 ⟨#[66,97,115,101]⟩ ⟨#[119]⟩,iAt 4 0,iNum (n : Int),iPart 27 ⟨#[66,97,115,101]⟩ ⟨#[120]⟩] (by rfl) hol g 0 5 5 [iAt 4 0,iPart 26 ⟨#[66,97,115,101]⟩ ⟨#[120]⟩,iNum ((n : Int) % 5),iOne 8,iOne 39] (by rfl) hrc (by simp) (by simp) ?_; intro v3 w3 ho3 hg3 hl3; obtain ⟨p3,n3,c3,hv3⟩ := ho3.slice; subst hv3; have hT3 := hTc.grown hg3 (fun h => (by simp only [Value.ownBlock,Option.some.injEq] at h; omega)); obtain ⟨e1,e2,e3⟩ := hT3.cells)
   | (rw [if_pos (by rfl)]; go_simp; go_at_call 28; refine (at_x _ _ _).mono ?_; rintro e wx ⟨rfl,hbx⟩; replace hTx := hTx.below hbx; obtain ⟨t1,t2,t3⟩ := hTx.cells; replace hrx := hrx.any (sP.grow _) hbx; replace hBx := hBx.trans (hbx.mono hBx.size); clear hbx; have hTc := hTx.below (below_alM wx (.cells #[.int .i64 4,.int .i32 0,.int .i64 0,.string ⟨#[]⟩,.string ⟨#[]⟩,.string ⟨#[]⟩,.string ⟨#[]⟩,.int .i64 1,.int .i32 9,.int .i64 0,.string ⟨#[]⟩,.string ⟨#[]⟩,.string ⟨#[]⟩,.string ⟨#[]⟩,.int .i64 27,.int .i32 0,.int .i64 0,.string ⟨#[]⟩,.string ⟨#[66,97,115,101]⟩,.string ⟨#[119]⟩,.string ⟨#[]⟩,.int .i64 4,.int .i32 0,.int .i64 0,.string ⟨#[]⟩,.string ⟨#[]⟩,.string ⟨#[]⟩,.string ⟨#[]⟩,.int .i64 1,.int .i32 (n : Int),.int .i64 0,.string ⟨#[]⟩,.string ⟨#[]⟩,.string ⟨#[]⟩,.string ⟨#[]⟩,.int .i64 27,.int .i32 0,.int .i64 0,.string ⟨#[]⟩,.string ⟨#[66,97,115,101]⟩,.string ⟨#[120]⟩,.string ⟨#[]⟩] 59)); obtain ⟨d1,d2,d3⟩ := hTc.cells; have hol := OwnX.lits (T := 59) insC_len wx [iAt 4 0,iNum 9,iPart 27 ⟨#[66,97,115,101]⟩ ⟨#[119]⟩,iAt 4 0,iNum (n : Int),iPart 27 ⟨#[66,97,115,101]⟩ ⟨#[120]⟩] #[.int .i64 4,.int .i32 0,.int .i64 0,.string ⟨#[]⟩,.string ⟨#[]⟩,.string ⟨#[]⟩,.string ⟨#[]⟩,.int .i64 1,.int .i32 9,.int .i64 0,.string ⟨#[]⟩,.string ⟨#[]⟩,.string ⟨#[]⟩,.string ⟨#[]⟩,.int .i64 27,.int .i32 0,.int .i64 0,.string ⟨#[]⟩,.string ⟨#[66,97,115,101]⟩,.string ⟨#[119]⟩,.string ⟨#[]⟩,.int .i64 4,.int .i32 0,.int .i64 0,.string ⟨#[]⟩,.string ⟨#[]⟩,.string ⟨#[]⟩,.string ⟨#[]⟩,.int .i64 1,.int .i32 (n : Int),.int .i64 0,.string ⟨#[]⟩,.string ⟨#[]⟩,.string ⟨#[]⟩,.string ⟨#[]⟩,.int .i64 27,.int .i32 0,.int .i64 0,.string ⟨#[]⟩,.string ⟨#[66,97,115,101]⟩,.string ⟨#[120]⟩,.string ⟨#[]⟩] rfl 6 rfl (by decide); have hrc := hrx.any (sP.grow _) (below_alM wx (.cells #[.int .i64 4,.int .i32 0,.int .i64 0,.string ⟨#[]⟩,.string ⟨#[]⟩,.string ⟨#[]⟩,.string ⟨#[]⟩,.int .i64 1,.int .i32 9,.int .i64 0,.string ⟨#[]⟩,.string ⟨#[]⟩,.string ⟨#[]⟩,.string ⟨#[]⟩,.int .i64 27,.int .i32 0,.int .i64 0,.string ⟨#[]⟩,.string ⟨#[66,97,115,101]⟩,.string ⟨#[119]⟩,.string ⟨#[]⟩,.int .i64 4,.int .i32 0,.int .i64 0,.string ⟨#[]⟩,.string ⟨#[]⟩,.string ⟨#[]⟩,.string ⟨#[]⟩,.int .i64 1,.int .i32 (n : Int),.int .i64 0,.string ⟨#[]⟩,.string ⟨#[]⟩,.string ⟨#[]⟩,.string ⟨#[]⟩,.int .i64 27,.int .i32 0,.int .i64 0,.string ⟨#[]⟩,.string ⟨#[66,97,115,101]⟩,.string ⟨#[120]⟩,.string ⟨#[]⟩] 59)))
   | (rw [if_pos (by rfl)]; go_simp; go_at_call 60; (first | (refine (num_yn _ (n : Int) _ (by first | rfl | (simp only [IntKind.wrap_i64]; omega)) (by omega)).mono ?_) | (refine (num_x _ _ (by omega)).mono ?_)); rintro e wx ⟨rfl,hbx⟩; replace hTx := hTx.below hbx; obtain ⟨t1,t2,t3⟩ := hTx.cells; replace hrx := hrx.any (sP.grow _) hbx; replace hBx := hBx.trans (hbx.mono hBx.size); clear hbx; have hTc := hTx.below (below_alM wx (.cells #[.int .i64 4,.int .i32 0,.int .i64 0,.string ⟨#[]⟩,.string ⟨#[]⟩,.string ⟨#[]⟩,.string ⟨#[]⟩,.int .i64 1,.int .i32 9,.int .i64 0,.string ⟨#[]⟩,.string ⟨#[]⟩,.string ⟨#[]⟩,.string ⟨#[]⟩,.int .i64 27,.int .i32 0,.int .i64 0,.string ⟨#[]⟩,.string ⟨#[66,97,115,101]⟩,.string ⟨#[119]⟩,.string ⟨#[]⟩,.int .i64 4,.int .i32 0,.int .i64 0,.string ⟨#[]⟩,.string ⟨#[]⟩,.string ⟨#[]⟩,.string ⟨#[]⟩,.int .i64 1,.int .i32 (n : Int),.int .i64 0,.string ⟨#[]⟩,.string ⟨#[]⟩,.string ⟨#[]⟩,.string ⟨#[]⟩,.int .i64 27,.int .i32 0,.int .i64 0,.string ⟨#[]⟩,.string ⟨#[66,97,115,101]⟩,.string ⟨#[120]⟩,.string ⟨#[]⟩] 59)); obtain ⟨d1,d2,d3⟩ := hTc.cells; have hol := OwnX.lits (T := 59) insC_len wx [iAt 4 0,iNum 9,iPart 27 ⟨#[66,97,115,101]⟩ ⟨#[119]⟩,iAt 4 0,iNum (n : Int),iPart 27 ⟨#[66,97,115,101]⟩ ⟨#[120]⟩] #[.int .i64 4,.int .i32 0,.int .i64 0,.string ⟨#[]⟩,.string ⟨#[]⟩,.string ⟨#[]⟩,.string ⟨#[]⟩,.int .i64 1,.int .i32 9,.int .i64 0,.string ⟨#[]⟩,.string ⟨#[]⟩,.string ⟨#[]⟩,.string ⟨#[]⟩,.int .i64 27,.int .i32 0,.int .i64 0,.string ⟨#[]⟩,.string ⟨#[66,97,115,101]⟩,.string ⟨#[119]⟩,.string ⟨#[]⟩,.int .i64 4,.int .i32 0,.int .i64 0,.string ⟨#[]⟩,.string ⟨#[]⟩,.string ⟨#[]⟩,.string ⟨#[]⟩,.int .i64 1,.int .i32 (n : Int),.int .i64 0,.string ⟨#[]⟩,.string ⟨#[]⟩,.string ⟨#[]⟩,.string ⟨#[]⟩,.int .i64 27,.int .i32 0,.int .i64 0,.string ⟨#[]⟩,.string ⟨#[66,97,115,101]⟩,.string ⟨#[120]⟩,.string ⟨#[]⟩] rfl 6 rfl (by decide); have hrc := hrx.any (sP.grow _) (below_alM wx (.cells #[.int .i64 4,.int .i32 0,.int .i64 0,.string ⟨#[]⟩,.string ⟨#[]⟩,.string ⟨#[]⟩,.string ⟨#[]⟩,.int .i64 1,.int .i32 9,.int .i64 0,.string ⟨#[]⟩,.string ⟨#[]⟩,.string ⟨#[]⟩,.string ⟨#[]⟩,.int .i64 27,.int .i32 0,.int .i64 0,.string ⟨#[]⟩,.string ⟨#[66,97,115,101]⟩,.string ⟨#[119]⟩,.string ⟨#[]⟩,.int .i64 4,.int .i32 0,.int .i64 0,.string ⟨#[]⟩,.string ⟨#[]⟩,.string ⟨#[]⟩,.string ⟨#[]⟩,.int .i64 1,.int .i32 (n : Int),.int .i64 0,.string ⟨#[]⟩,.string ⟨#[]⟩,.string ⟨#[]⟩,.string ⟨#[]⟩,.int .i64 27,.int .i32 0,.int .i64 0,.string ⟨#[]⟩,.string ⟨#[66,97,115,101]⟩,.string ⟨#[120]⟩,.string ⟨#[]⟩] 59)))
   | (rw [if_pos (by rfl)]; go_simp; go_at_call 66; refine (part_x _ _ _ _).mono ?_; rintro e wx ⟨rfl,hbx⟩; replace hTx := hTx.below hbx; obtain ⟨t1,t2,t3⟩ := hTx.cells; replace hrx := hrx.any (sP.grow _) hbx; replace hBx := hBx.trans (hbx.mono hBx.size); clear hbx; have hTc := hTx.below (below_alM wx (.cells #[.int .i64 4,.int .i32 0,.int .i64 0,.string ⟨#[]⟩,.string ⟨#[]⟩,.string ⟨#[]⟩,.string ⟨#[]⟩,.int .i64 1,.int .i32 9,.int .i64 0,.string ⟨#[]⟩,.string ⟨#[]⟩,.string ⟨#[]⟩,.string ⟨#[]⟩,.int .i64 27,.int .i32 0,.int .i64 0,.string ⟨#[]⟩,.string ⟨#[66,97,115,101]⟩,.string ⟨#[119]⟩,.string ⟨#[]⟩,.int .i64 4,.int .i32 0,.int .i64 0,.string ⟨#[]⟩,.string ⟨#[]⟩,.string ⟨#[]⟩,.string ⟨#[]⟩,.int .i64 1,.int .i32 (n : Int),.int .i64 0,.string ⟨#[]⟩,.string ⟨#[]⟩,.string ⟨#[]⟩,.string ⟨#[]⟩,.int .i64 27,.int .i32 0,.int .i64 0,.string ⟨#[]⟩,.string ⟨#[66,97,115,101]⟩,.string ⟨#[120]⟩,.string ⟨#[]⟩] 59)); obtain ⟨d1,d2,d3⟩ := hTc.cells; have hol := OwnX.lits (T := 59) insC_len wx [iAt 4 0,iNum 9,iPart 27 ⟨#[66,97,115,101]⟩ ⟨#[119]⟩,iAt 4 0,iNum (n : Int),iPart 27 ⟨#[66,97,115,101]⟩ ⟨#[120]⟩] #[.int .i64 4,.int .i32 0,.int .i64 0,.string ⟨#[]⟩,.string ⟨#[]⟩,.string ⟨#[]⟩,.string ⟨#[]⟩,.int .i64 1,.int .i32 9,.int .i64 0,.string ⟨#[]⟩,.string ⟨#[]⟩,.string ⟨#[]⟩,.string ⟨#[]⟩,.int .i64 27,.int .i32 0,.int .i64 0,.string ⟨#[]⟩,.string ⟨#[66,97,115,101]⟩,.string ⟨#[119]⟩,.string ⟨#[]⟩,.int .i64 4,.int .i32 0,.int .i64 0,.string ⟨#[]⟩,.string ⟨#[]⟩,.string ⟨#[]⟩,.string ⟨#[]⟩,.int .i64 1,.int .i32 (n : Int),.int .i64 0,.string ⟨#[]⟩,.string ⟨#[]⟩,.string ⟨#[]⟩,.string ⟨#[]⟩,.int .i64 27,.int .i32 0,.int .i64 0,.string ⟨#[]⟩,.string ⟨#[66,97,115,101]⟩,.string ⟨#[120]⟩,.string ⟨#[]⟩] rfl 6 rfl (by decide); have hrc := hrx.any (sP.grow _) (below_alM wx (.cells #[.int .i64 4,.int .i32 0,.int .i64 0,.string ⟨#[]⟩,.string ⟨#[]⟩,.string ⟨#[]⟩,.string ⟨#[]⟩,.int .i64 1,.int .i32 9,.int .i64 0,.string ⟨#[]⟩,.string ⟨#[]⟩,.string ⟨#[]⟩,.string ⟨#[]⟩,.int .i64 27,.int .i32 0,.int .i64 0,.string ⟨#[]⟩,.string ⟨#[66,97,115,101]⟩,.string ⟨#[119]⟩,.string ⟨#[]⟩,.int .i64 4,.int .i32 0,.int .i64 0,.string ⟨#[]⟩,.string ⟨#[]⟩,.string ⟨#[]⟩,.string ⟨#[]⟩,.int .i64 1,.int .i32 (n : Int),.int .i64 0,.string ⟨#[]⟩,.string ⟨#[]⟩,.string ⟨#[]⟩,.string ⟨#[]⟩,.int .i64 27,.int .i32 0,.int .i64 0,.string ⟨#[]⟩,.string ⟨#[66,97,115,101]⟩,.string ⟨#[120]⟩,.string ⟨#[]⟩] 59))))
  all_goals
   obtain ⟨wF,hwF⟩ : ∃ x,x = w3.setCell ⟨tb,7,none⟩ (.slice p3 n3 c3) := ⟨_,rfl⟩
   rw [<- hwF]
   have hkF : Kpt [tb] w3 wF := by rw [hwF]; exact Kpt.set _ _ _ _ _ (by simp)
   have hTF : MBox wF tb (.slice p3 n3 c3) := by rw [hwF]; exact (heap_setCell_same w3 tb 7 _ _ _ hT3).trans rfl
   have hrF : RdX 7 (sP insC) (fun b => w1.heap.size <= b) wF (.slice p3 n3 c3) ([iAt 4 0,iNum 9,iPart 27 ⟨#[66,97,115,101]⟩ ⟨#[119]⟩,iAt 4 0,iNum (n : Int),iPart 27 ⟨#[66,97,115,101]⟩ ⟨#[120]⟩] ++ [iAt 4 0,iPart 26 ⟨#[66,97,115,101]⟩ ⟨#[120]⟩,iNum ((n : Int) % 5),iOne 8,iOne 39]) := (ho3.rd (sP.grow _)).step (sP.grow _) (fun b h _ => by show w1.heap.size <= b; have h' : wx.heap.size <= b := h; have := hBx.size; omega) (.of_kpt hkF (fun b h => by have h' : wx.heap.size <= b := h; simp; omega)) hkF.size
   have hBF : Below w1.heap.size w1 wF := (hBx.trans (((below_alM wx _).mono hBx.size).trans ⟨hg3.os,hg3.tape,hg3.output,hg3.size,fun k hk => hg3.block k (by have := hBx.size; simp; omega) (fun h => by simp only [Value.ownBlock,Option.some.injEq] at h; have := hBx.size; omega)⟩)).trans (hkF.below (fun x hx => by simp at hx; omega) (by have h1 := hBx.size; have h2 := hg3.size; simp at h2; omega))
   clear hwF hkF hg3 hl3 ho3 hT3 hol hrc hTx hrx hBx hTc
   have hxF := (hBF.block _ hlt1).trans HX.out
   obtain ⟨hl9,hcs9,hfz9⟩ := boxN hxF
   have y9_0 := hcs9 0 _ rfl
   have z9_0 := hfz9 0
   have y9_1 := hcs9 1 _ rfl
   have z9_1 := hfz9 1
   have y9_2 := hcs9 2 _ rfl
   have z9_2 := hfz9 2
   have y9_3 := hcs9 3 _ rfl
   have z9_3 := hfz9 3
   have y9_4 := hcs9 4 _ rfl
   have z9_4 := hfz9 4
   have y9_5 := hcs9 5 _ rfl
   have z9_5 := hfz9 5
   have y9_6 := hcs9 6 _ rfl
   have z9_6 := hfz9 6
   have y9_7 := hcs9 7 _ rfl
   have z9_7 := hfz9 7
   have y9_8 := hcs9 8 _ rfl
   have z9_8 := hfz9 8
   simp only [Nat.zero_add] at y9_0 y9_1 y9_2 y9_3 y9_4 y9_5 y9_6 y9_7 y9_8
   obtain ⟨hlm,hcm,-⟩ := boxN (show wF.heap[tb]? = _ from hTF)
   have m9_0 := hcm 0 _ rfl
   have m9_1 := hcm 1 _ rfl
   have m9_2 := hcm 2 _ rfl
   have m9_3 := hcm 3 _ rfl
   have m9_4 := hcm 4 _ rfl
   have m9_5 := hcm 5 _ rfl
   have m9_6 := hcm 6 _ rfl
   have m9_7 := hcm 7 _ rfl
   have m9_8 := hcm 8 _ rfl
   simp only [Nat.zero_add] at m9_0 m9_1 m9_2 m9_3 m9_4 m9_5 m9_6 m9_7 m9_8
   have HC : Hid ((runS s n).code = [iAt 4 0,iNum 9,iPart 27 ⟨#[66,97,115,101]⟩ ⟨#[119]⟩,iAt 4 0,iNum (n : Int),iPart 27 ⟨#[66,97,115,101]⟩ ⟨#[120]⟩] ++ [iAt 4 0,iPart 26 ⟨#[66,97,115,101]⟩ ⟨#[120]⟩,iNum ((n : Int) % 5),iOne 8,iOne 39]) := hid (by unfold runS mthS; simp [hq])
   have HRF := hid hrF
   have HBF := hid hBF
   have HXF := hid hxF
   clear hcs9 hfz9 hcm hrF hBF hTF hxF
   go_wp2_with fail
   have hk := fun {x0 x1 x2 x3 x4 x5 x6 x7 x8 : Value} => (set9 (v0 := x0) (v1 := x1) (v2 := x2) (v3 := x3) (v4 := x4) (v5 := x5) (v6 := x6) (v7 := x7) (v8 := x8) HXF.out).2
   have hs9 : w.heap.size <= wF.heap.size := by omega
   refine bodyPost_ret (v := .agg #[.string ⟨#[114,117,110]⟩,.slice none 0 0,.int .i64 1,.string ⟨#[]⟩,.bool false,.bool false,.int .i64 1,.slice p3 n3 c3,.slice none 0 0]) (by simp [results,Tryz.results64,go_sem,y9_0,y9_1,y9_2,y9_3,y9_4,y9_5,y9_6,y9_7,y9_8]) rfl ⟨_,_,_,_,_,_,_,_,_,rfl,RdX.nil _ _ _ _,by rw [HC.out]; exact HRF.out.step (sP.grow _) (fun b (h : w1.heap.size <= b) _ => (show w.heap.size <= b by omega)) (.of_kpt hk (fun b hb => by simp; omega)) hk.size,RdX.nil _ _ _ _,?_⟩
   exact (HA.out.trans (HBF.out.mono (Nat.le_of_lt hlt1))).trans (Kpt.below hk (fun x hx => by simp at hx; omega) hs9)
 ·have hqi1 : ¬ (n : Int) / 5 % 4 = 1 := by omega
  have hqi2 : ¬ (n : Int) / 5 % 4 = 2 := by omega
  have hx9 := (HB.out.block _ hlt1).trans HX.out
  obtain ⟨hl9,hcs9,hfz9⟩ := boxN hx9
  have y9_0 := hcs9 0 _ rfl
  have z9_0 := hfz9 0
  have y9_1 := hcs9 1 _ rfl
  have z9_1 := hfz9 1
  have y9_2 := hcs9 2 _ rfl
  have z9_2 := hfz9 2
  have y9_3 := hcs9 3 _ rfl
  have z9_3 := hfz9 3
  have y9_4 := hcs9 4 _ rfl
  have z9_4 := hfz9 4
  have y9_5 := hcs9 5 _ rfl
  have z9_5 := hfz9 5
  have y9_6 := hcs9 6 _ rfl
  have z9_6 := hfz9 6
  have y9_7 := hcs9 7 _ rfl
  have z9_7 := hfz9 7
  have y9_8 := hcs9 8 _ rfl
  have z9_8 := hfz9 8
  simp only [Nat.zero_add] at y9_0 y9_1 y9_2 y9_3 y9_4 y9_5 y9_6 y9_7 y9_8
  have HX9 := hid hx9
  have HC : Hid ((runS s n).code = [iAt 4 0,iPart 26 ⟨#[66,97,115,101]⟩ ⟨#[120]⟩,iNum ((n : Int) % 5),iOne 8,iOne 39]) := hid (by unfold runS mthS; simp [hq.1,hq.2])
  clear hcs9 hfz9 hT hbT hwT hx9
  go_wp2_with fail
  have hk := fun {x0 x1 x2 x3 x4 x5 x6 x7 x8 : Value} {o : Obj} => Kpt.trans (set9 (v0 := x0) (v1 := x1) (v2 := x2) (v3 := x3) (v4 := x4) (v5 := x5) (v6 := x6) (v7 := x7) (v8 := x8) HX9.out).2 (Kpt.alloc [w.heap.size] _ o) (fun _ hx => .inl hx)
  refine bodyPost_ret (v := .agg #[.string ⟨#[114,117,110]⟩,.slice none 0 0,.int .i64 1,.string ⟨#[]⟩,.bool false,.bool false,.int .i64 1,.slice (some ⟨g,0,none⟩) 5 5,.slice none 0 0]) (by simp [results,Tryz.results64,go_sem,hl9,y9_0,y9_1,y9_2,y9_3,y9_4,y9_5,y9_6,y9_7,y9_8]) rfl ⟨_,_,_,_,_,_,_,_,_,rfl,RdX.nil _ _ _ _,by rw [HC.out]; exact HRC.out.step (sP.grow _) (fun b (h : w1.heap.size <= b) _ => (show w.heap.size <= b by omega)) (.of_kpt hk (fun b hb => by simp; omega)) hk.size,RdX.nil _ _ _ _,?_⟩
  exact (HA.out.trans (HB.out.mono (Nat.le_of_lt hlt1))).trans (Kpt.below hk (fun x hx => by simp at hx; omega) (by have := HB.out.size; omega))
end Go.Proofs.YtfpeakkbbfnhcaaGreat.A
