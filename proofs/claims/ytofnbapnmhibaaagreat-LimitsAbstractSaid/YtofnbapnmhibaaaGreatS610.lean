/- Texts that the proof is made of, joined. No condition. -/
import Derived.Test.YtofnbapnmhibaaaGreatS69
import Derived.Test.YtofnbapnmhibaaaGreatS6H
set_option linter.unusedVariables false
set_option linter.unusedSimpArgs false
set_option maxRecDepth 100000
set_option maxHeartbeats 16000000
namespace Go.Proofs.YtofnbapnmhibaaaGreat.A
open Go.RowKit Go.Proofs.YtofnbapnmhibaaaGreat.D Go.Proofs.YtofnbapnmhibaaaGreat.O
theorem z7 {w : World} {b : Nat} {v0 v1 v2 v3 v4 v5 v6 : Value} (h : CellsAt w b 0 [v0,v1,v2,v3,v4,v5,v6]) : w.cell? ⟨b,0,none⟩ = some v0 /\ w.cell? ⟨b,1,none⟩ = some v1 /\ w.cell? ⟨b,2,none⟩ = some v2 /\ w.cell? ⟨b,3,none⟩ = some v3 /\ w.cell? ⟨b,4,none⟩ = some v4 /\ w.cell? ⟨b,5,none⟩ = some v5 /\ w.cell? ⟨b,6,none⟩ = some v6 := h.seven
theorem rdT_of {ok : Nat -> Prop} {w : World} {v : Value} {ts : List Ty} (h : RdX 2 (sP tyC) ok w v ts) : RdT w v ts := by
 obtain ⟨p,cap,rfl,h1,h2,h3⟩ := h
 rcases h3 with rfl | ⟨b,off,rfl,hb,hlt,hc⟩
 ·exact ⟨p,cap,rfl,(fun a ha hn => absurd rfl hn),fun _ => rfl,fun a ha i t ht => by simp at ht⟩
 ·refine ⟨_,cap,rfl,(fun a ha _ => by cases ha; rfl),(fun h => by cases h),fun a ha i t ht => ?_⟩
  cases ha
  exact CellsAt.two (sP_at (ok := ok) (hc i t ht))
theorem uses_six (o : Int) : usesI o = 0 ∨ usesI o = 1 ∨ usesI o = 2 ∨ usesI o = 3 ∨ usesI o = 4 ∨ usesI o = 5 ∨ usesI o = 6 := by
 unfold usesI
 omega
def goodI (x : Ins) : Prop := rightI x = true /\ okI x
def goodM (m : Mth) : Prop := mthB m = true /\ wfM m
def goodC (c : Cls) : Prop := clsB c = true /\ wfC c
theorem num_w1 (g : Nat) (ok : Nat -> Prop) (wb pb mb : Nat) (st : WS) (z : Int) (w : World) (hg : g = w.heap.size) (T : TypeId) (h : Wt w ok wb pb mb st) (hok : ∀ x,ok x -> x < w.heap.size) (h0 : -9223372036854775808 <= z) (h1 : z <= 9223372036854775807) (hr : Room st 1) :
  Calls Tryz.prog 49 #[.pointer (some ⟨wb,0,none⟩),.slice (some ⟨g,0,none⟩) 1 1] (w.alloc (.cells #[.int .i64 z] T)) (Wrote ok wb pb mb (wNums [z] st) (w.alloc (.cells #[.int .i64 z] T))) := by
 subst hg
 exact num_w ok wb pb mb st z w T h hok h0 h1 hr
theorem instr_0 (wb pb mb : Nat) (o n k : Int) (s c m d : ByteArray) (hU : usesI o = 0) (ho : 0 < o /\ o < 44) (hz : s.size <= 1000 /\ c.size <= 1000 /\ m.size <= 1000 /\ d.size <= 1000 /\ (0 <= k /\ k <= 2000) /\ (-2147483648 <= n /\ n <= 2147483647)) (ok : Nat -> Prop) (st : WS) (w : World) (hw : Wt w ok wb pb mb st) (hok : ∀ b,ok b -> b < w.heap.size) (hroom : Room st 4) :
  Calls Tryz.prog 73 #[.pointer (some ⟨wb,0,none⟩),.agg #[.int .i64 o,.int .i32 n,.int .i64 k,.string s,.string c,.string m,.string d]] w (Wrote ok wb pb mb (wIns (o,n,k,s,c,m,d) st) w) := by
 obtain ⟨hs,hc,hm,hd,hk,hn⟩ := hz
 have R1 := hroom.next (b := 3) (ext_nums (n := 1) (zs := [o]) (by simp; omega) (by simp)) (by decide)
 have HF : Hid (∀ st,wUse (o,n,k,s,c,m,d) st = (fun st => st) st) := hid (fun st => by unfold wUse; simp [hU])
 have HF2 : Hid (wIns (o,n,k,s,c,m,d) st = (fun st => st) (wNums [o] st)) := hid (by unfold wIns; exact HF.out _)
 have H0 := Sit.start [.int .i64 o,.int .i32 n,.int .i64 k,.string s,.string c,.string m,.string d] 31 hw hok
 go_enter Tryz.func73,Tryz.ntmps73
 go_wp2_with fail
 refine (num_w1 (w.heap.size + 1) _ wb pb mb _ o _ (by simp) _ H0.1 H0.2.1 (by omega) (by omega) (hroom.le (by decide))).mono ?_
 intro e w1 hq
 obtain ⟨rfl,H1⟩ := (H0.alloc _).wrote hq
 clear hq
 obtain ⟨a1_0,a1_1,a1_2,a1_3,a1_4,a1_5,a1_6⟩ := z7 H1.2.2.1
 have hX1 := H1.2.1 _ (.inr rfl)
 go_wp2_with fail
 refine (uses_any o _).mono ?_
 rintro e w' ⟨rfl,rfl⟩
 go_wp2_with fail
 exact bodyPost_end (results_none rfl _ _ _) rfl (by rw [HF2.out]; exact H1.fin)
theorem instr_1 (wb pb mb : Nat) (o n k : Int) (s c m d : ByteArray) (hU : usesI o = 1) (ho : 0 < o /\ o < 44) (hz : s.size <= 1000 /\ c.size <= 1000 /\ m.size <= 1000 /\ d.size <= 1000 /\ (0 <= k /\ k <= 2000) /\ (-2147483648 <= n /\ n <= 2147483647)) (ok : Nat -> Prop) (st : WS) (w : World) (hw : Wt w ok wb pb mb st) (hok : ∀ b,ok b -> b < w.heap.size) (hroom : Room st 4) :
  Calls Tryz.prog 73 #[.pointer (some ⟨wb,0,none⟩),.agg #[.int .i64 o,.int .i32 n,.int .i64 k,.string s,.string c,.string m,.string d]] w (Wrote ok wb pb mb (wIns (o,n,k,s,c,m,d) st) w) := by
 obtain ⟨hs,hc,hm,hd,hk,hn⟩ := hz
 have R1 := hroom.next (b := 3) (ext_nums (n := 1) (zs := [o]) (by simp; omega) (by simp)) (by decide)
 have HF : Hid (∀ st,wUse (o,n,k,s,c,m,d) st = (wInt n) st) := hid (fun st => by unfold wUse; simp [hU])
 have HF2 : Hid (wIns (o,n,k,s,c,m,d) st = (wInt n) (wNums [o] st)) := hid (by unfold wIns; exact HF.out _)
 have H0 := Sit.start [.int .i64 o,.int .i32 n,.int .i64 k,.string s,.string c,.string m,.string d] 31 hw hok
 go_enter Tryz.func73,Tryz.ntmps73
 go_wp2_with fail
 refine (num_w1 (w.heap.size + 1) _ wb pb mb _ o _ (by simp) _ H0.1 H0.2.1 (by omega) (by omega) (hroom.le (by decide))).mono ?_
 intro e w1 hq
 obtain ⟨rfl,H1⟩ := (H0.alloc _).wrote hq
 clear hq
 obtain ⟨a1_0,a1_1,a1_2,a1_3,a1_4,a1_5,a1_6⟩ := z7 H1.2.2.1
 have hX1 := H1.2.1 _ (.inr rfl)
 go_wp2_with fail
 refine (uses_any o _).mono ?_
 rintro e w' ⟨rfl,rfl⟩
 obtain ⟨sl,bv,hw1⟩ := H1.1
 obtain ⟨a0,n0,c0',hsl⟩ := own_slice hw1.2.2.1
 subst hsl
 have hwD : WtP w1.drew (okX ok w.heap.size) wb pb mb sl (.slice a0 n0 c0') (wNums [o] st).1 (wNums [o] st).2 := hw1
 obtain ⟨hlt,c0,c1,f1⟩ := hwD.cells
 have hR1 := R1
 unfold Room at hR1
 have hfb : (nb (foldN n)).length <= 10 := nb_len10 (Nat.lt_of_le_of_lt (fold_back hn.1 hn.2).1 (by decide))
 go_wp2_with fail
 go_region_law (first
  | (refine step_appB (by rfl) _ _ (by rfl) 0 _ (wNums [o] st).2 (by rfl) hw2.2.2.1 _ _ (by rfl) ho2.rd (by rw [List.nil_append]; omega) (by omega) ?_; intro v3 w3 ho3 hg3 hl3; obtain ⟨a3,n3,c3,hv3⟩ := own_slice ho3; subst hv3; obtain ⟨d0,d1,hfin,hfr⟩ := hw2.put ho3 hg3 hl3 hok2)
  | (rw [if_pos (by rfl)]; go_simp; go_at_call 97; refine (int_any (.slice none 0 0) [] n _ (rd_nil _) (.inl rfl) (by simp) hn.1 hn.2).mono ?_; rintro e w2 ⟨v2,rfl,ho2,hb2⟩; have hw2 : WtP w2 (okX ok w.heap.size) wb pb mb sl (.slice a0 n0 c0') (wNums [o] st).1 (wNums [o] st).2 := (hwD.kpt (.of_below hb2 : Kpt [] w1.drew w2) (fun _ _ => by simp) (fun _ hx => .inl hx)); have hok2 : ∀ x,okX ok w.heap.size x -> x < w2.heap.size := fun x hx => (by have := H1.2.1 x hx; have := hb2.size; simp at this; omega); obtain ⟨hlt2,e0',e1',g1'⟩ := hw2.cells))
 all_goals
  have hq : Wrote (okX ok w.heap.size) wb pb mb (wInt n (wNums [o] st)) w1 (.returned (.tuple #[])) _ := ⟨rfl,⟨_,_,hfin⟩,((Fr.drew _ w1).trans (.of_below hb2)).trans hfr⟩
  have H2 := (H1.wrote hq).2
  go_wp2_with fail
  exact bodyPost_end (results_none rfl _ _ _) rfl (by rw [HF2.out]; exact H2.fin)
theorem instr_2 (wb pb mb : Nat) (o n k : Int) (s c m d : ByteArray) (hU : usesI o = 2) (ho : 0 < o /\ o < 44) (hz : s.size <= 1000 /\ c.size <= 1000 /\ m.size <= 1000 /\ d.size <= 1000 /\ (0 <= k /\ k <= 2000) /\ (-2147483648 <= n /\ n <= 2147483647)) (ok : Nat -> Prop) (st : WS) (w : World) (hw : Wt w ok wb pb mb st) (hok : ∀ b,ok b -> b < w.heap.size) (hroom : Room st 4) :
  Calls Tryz.prog 73 #[.pointer (some ⟨wb,0,none⟩),.agg #[.int .i64 o,.int .i32 n,.int .i64 k,.string s,.string c,.string m,.string d]] w (Wrote ok wb pb mb (wIns (o,n,k,s,c,m,d) st) w) := by
 obtain ⟨hs,hc,hm,hd,hk,hn⟩ := hz
 have R1 := hroom.next (b := 3) (ext_nums (n := 1) (zs := [o]) (by simp; omega) (by simp)) (by decide)
 have HF : Hid (∀ st,wUse (o,n,k,s,c,m,d) st = (wText s) st) := hid (fun st => by unfold wUse; simp [hU])
 have HF2 : Hid (wIns (o,n,k,s,c,m,d) st = (wText s) (wNums [o] st)) := hid (by unfold wIns; exact HF.out _)
 have H0 := Sit.start [.int .i64 o,.int .i32 n,.int .i64 k,.string s,.string c,.string m,.string d] 31 hw hok
 go_enter Tryz.func73,Tryz.ntmps73
 go_wp2_with fail
 refine (num_w1 (w.heap.size + 1) _ wb pb mb _ o _ (by simp) _ H0.1 H0.2.1 (by omega) (by omega) (hroom.le (by decide))).mono ?_
 intro e w1 hq
 obtain ⟨rfl,H1⟩ := (H0.alloc _).wrote hq
 clear hq
 obtain ⟨a1_0,a1_1,a1_2,a1_3,a1_4,a1_5,a1_6⟩ := z7 H1.2.2.1
 have hX1 := H1.2.1 _ (.inr rfl)
 go_wp2_with fail
 refine (uses_any o _).mono ?_
 rintro e w' ⟨rfl,rfl⟩
 go_wp2_with fail
 refine (text_w _ wb pb mb _ s _ H1.1 H1.2.1 (by omega) (R1.le (by decide))).mono ?_
 intro e w2 hq
 obtain ⟨rfl,H2⟩ := H1.wrote hq
 clear hq
 obtain ⟨a2_0,a2_1,a2_2,a2_3,a2_4,a2_5,a2_6⟩ := z7 H2.2.2.1
 have hX2 := H2.2.1 _ (.inr rfl)
 go_wp2_with fail
 exact bodyPost_end (results_none rfl _ _ _) rfl (by rw [HF2.out]; exact H2.fin)
theorem instr_3 (wb pb mb : Nat) (o n k : Int) (s c m d : ByteArray) (hU : usesI o = 3) (ho : 0 < o /\ o < 44) (hz : s.size <= 1000 /\ c.size <= 1000 /\ m.size <= 1000 /\ d.size <= 1000 /\ (0 <= k /\ k <= 2000) /\ (-2147483648 <= n /\ n <= 2147483647)) (ok : Nat -> Prop) (st : WS) (w : World) (hw : Wt w ok wb pb mb st) (hok : ∀ b,ok b -> b < w.heap.size) (hroom : Room st 4) :
  Calls Tryz.prog 73 #[.pointer (some ⟨wb,0,none⟩),.agg #[.int .i64 o,.int .i32 n,.int .i64 k,.string s,.string c,.string m,.string d]] w (Wrote ok wb pb mb (wIns (o,n,k,s,c,m,d) st) w) := by
 obtain ⟨hs,hc,hm,hd,hk,hn⟩ := hz
 have R1 := hroom.next (b := 3) (ext_nums (n := 1) (zs := [o]) (by simp; omega) (by simp)) (by decide)
 have HF : Hid (∀ st,wUse (o,n,k,s,c,m,d) st = (wNums [k]) st) := hid (fun st => by unfold wUse; simp [hU])
 have HF2 : Hid (wIns (o,n,k,s,c,m,d) st = (wNums [k]) (wNums [o] st)) := hid (by unfold wIns; exact HF.out _)
 have H0 := Sit.start [.int .i64 o,.int .i32 n,.int .i64 k,.string s,.string c,.string m,.string d] 31 hw hok
 go_enter Tryz.func73,Tryz.ntmps73
 go_wp2_with fail
 refine (num_w1 (w.heap.size + 1) _ wb pb mb _ o _ (by simp) _ H0.1 H0.2.1 (by omega) (by omega) (hroom.le (by decide))).mono ?_
 intro e w1 hq
 obtain ⟨rfl,H1⟩ := (H0.alloc _).wrote hq
 clear hq
 obtain ⟨a1_0,a1_1,a1_2,a1_3,a1_4,a1_5,a1_6⟩ := z7 H1.2.2.1
 have hX1 := H1.2.1 _ (.inr rfl)
 go_wp2_with fail
 refine (uses_any o _).mono ?_
 rintro e w' ⟨rfl,rfl⟩
 go_wp2_with fail
 refine (num_w1 (w1.heap.size) _ wb pb mb _ k _ rfl _ H1.1 H1.2.1 (by omega) (by omega) (R1.le (by decide))).mono ?_
 intro e w2 hq
 obtain ⟨rfl,H2⟩ := (H1.alloc _).wrote hq
 clear hq
 obtain ⟨a2_0,a2_1,a2_2,a2_3,a2_4,a2_5,a2_6⟩ := z7 H2.2.2.1
 have hX2 := H2.2.1 _ (.inr rfl)
 go_wp2_with fail
 exact bodyPost_end (results_none rfl _ _ _) rfl (by rw [HF2.out]; exact H2.fin)
theorem instr_4 (wb pb mb : Nat) (o n k : Int) (s c m d : ByteArray) (hU : usesI o = 4) (ho : 0 < o /\ o < 44) (hz : s.size <= 1000 /\ c.size <= 1000 /\ m.size <= 1000 /\ d.size <= 1000 /\ (0 <= k /\ k <= 2000) /\ (-2147483648 <= n /\ n <= 2147483647)) (ok : Nat -> Prop) (st : WS) (w : World) (hw : Wt w ok wb pb mb st) (hok : ∀ b,ok b -> b < w.heap.size) (hroom : Room st 4) :
  Calls Tryz.prog 73 #[.pointer (some ⟨wb,0,none⟩),.agg #[.int .i64 o,.int .i32 n,.int .i64 k,.string s,.string c,.string m,.string d]] w (Wrote ok wb pb mb (wIns (o,n,k,s,c,m,d) st) w) := by
 obtain ⟨hs,hc,hm,hd,hk,hn⟩ := hz
 have R1 := hroom.next (b := 3) (ext_nums (n := 1) (zs := [o]) (by simp; omega) (by simp)) (by decide)
 have HF : Hid (∀ st,wUse (o,n,k,s,c,m,d) st = (fun st => wText m (wText c st)) st) := hid (fun st => by unfold wUse; simp [hU])
 have HF2 : Hid (wIns (o,n,k,s,c,m,d) st = (fun st => wText m (wText c st)) (wNums [o] st)) := hid (by unfold wIns; exact HF.out _)
 have R2 := R1.next (b := 2) (ext_text (s := c) (by omega)) (by decide)
 have H0 := Sit.start [.int .i64 o,.int .i32 n,.int .i64 k,.string s,.string c,.string m,.string d] 31 hw hok
 go_enter Tryz.func73,Tryz.ntmps73
 go_wp2_with fail
 refine (num_w1 (w.heap.size + 1) _ wb pb mb _ o _ (by simp) _ H0.1 H0.2.1 (by omega) (by omega) (hroom.le (by decide))).mono ?_
 intro e w1 hq
 obtain ⟨rfl,H1⟩ := (H0.alloc _).wrote hq
 clear hq
 obtain ⟨a1_0,a1_1,a1_2,a1_3,a1_4,a1_5,a1_6⟩ := z7 H1.2.2.1
 have hX1 := H1.2.1 _ (.inr rfl)
 go_wp2_with fail
 refine (uses_any o _).mono ?_
 rintro e w' ⟨rfl,rfl⟩
 go_wp2_with fail
 refine (text_w _ wb pb mb _ c _ H1.1 H1.2.1 (by omega) (R1.le (by decide))).mono ?_
 intro e w2 hq
 obtain ⟨rfl,H2⟩ := H1.wrote hq
 clear hq
 obtain ⟨a2_0,a2_1,a2_2,a2_3,a2_4,a2_5,a2_6⟩ := z7 H2.2.2.1
 have hX2 := H2.2.1 _ (.inr rfl)
 go_wp2_with fail
 refine (text_w _ wb pb mb _ m _ H2.1 H2.2.1 (by omega) (R2.le (by decide))).mono ?_
 intro e w3 hq
 obtain ⟨rfl,H3⟩ := H2.wrote hq
 clear hq
 obtain ⟨a3_0,a3_1,a3_2,a3_3,a3_4,a3_5,a3_6⟩ := z7 H3.2.2.1
 have hX3 := H3.2.1 _ (.inr rfl)
 go_wp2_with fail
 exact bodyPost_end (results_none rfl _ _ _) rfl (by rw [HF2.out]; exact H3.fin)
theorem instr_5 (wb pb mb : Nat) (o n k : Int) (s c m d : ByteArray) (hU : usesI o = 5) (ho : 0 < o /\ o < 44) (hz : s.size <= 1000 /\ c.size <= 1000 /\ m.size <= 1000 /\ d.size <= 1000 /\ (0 <= k /\ k <= 2000) /\ (-2147483648 <= n /\ n <= 2147483647)) (ok : Nat -> Prop) (st : WS) (w : World) (hw : Wt w ok wb pb mb st) (hok : ∀ b,ok b -> b < w.heap.size) (hroom : Room st 4) :
  Calls Tryz.prog 73 #[.pointer (some ⟨wb,0,none⟩),.agg #[.int .i64 o,.int .i32 n,.int .i64 k,.string s,.string c,.string m,.string d]] w (Wrote ok wb pb mb (wIns (o,n,k,s,c,m,d) st) w) := by
 obtain ⟨hs,hc,hm,hd,hk,hn⟩ := hz
 have R1 := hroom.next (b := 3) (ext_nums (n := 1) (zs := [o]) (by simp; omega) (by simp)) (by decide)
 have HF : Hid (∀ st,wUse (o,n,k,s,c,m,d) st = (fun st => wText d (wText m (wText c st))) st) := hid (fun st => by unfold wUse; simp [hU])
 have HF2 : Hid (wIns (o,n,k,s,c,m,d) st = (fun st => wText d (wText m (wText c st))) (wNums [o] st)) := hid (by unfold wIns; exact HF.out _)
 have R2 := R1.next (b := 2) (ext_text (s := c) (by omega)) (by decide)
 have R3 := R2.next (b := 1) (ext_text (s := m) (by omega)) (by decide)
 have H0 := Sit.start [.int .i64 o,.int .i32 n,.int .i64 k,.string s,.string c,.string m,.string d] 31 hw hok
 go_enter Tryz.func73,Tryz.ntmps73
 go_wp2_with fail
 refine (num_w1 (w.heap.size + 1) _ wb pb mb _ o _ (by simp) _ H0.1 H0.2.1 (by omega) (by omega) (hroom.le (by decide))).mono ?_
 intro e w1 hq
 obtain ⟨rfl,H1⟩ := (H0.alloc _).wrote hq
 clear hq
 obtain ⟨a1_0,a1_1,a1_2,a1_3,a1_4,a1_5,a1_6⟩ := z7 H1.2.2.1
 have hX1 := H1.2.1 _ (.inr rfl)
 go_wp2_with fail
 refine (uses_any o _).mono ?_
 rintro e w' ⟨rfl,rfl⟩
 go_wp2_with fail
 refine (text_w _ wb pb mb _ c _ H1.1 H1.2.1 (by omega) (R1.le (by decide))).mono ?_
 intro e w2 hq
 obtain ⟨rfl,H2⟩ := H1.wrote hq
 clear hq
 obtain ⟨a2_0,a2_1,a2_2,a2_3,a2_4,a2_5,a2_6⟩ := z7 H2.2.2.1
 have hX2 := H2.2.1 _ (.inr rfl)
 go_wp2_with fail
 refine (text_w _ wb pb mb _ m _ H2.1 H2.2.1 (by omega) (R2.le (by decide))).mono ?_
 intro e w3 hq
 obtain ⟨rfl,H3⟩ := H2.wrote hq
 clear hq
 obtain ⟨a3_0,a3_1,a3_2,a3_3,a3_4,a3_5,a3_6⟩ := z7 H3.2.2.1
 have hX3 := H3.2.1 _ (.inr rfl)
 go_wp2_with fail
 refine (text_w _ wb pb mb _ d _ H3.1 H3.2.1 (by omega) R3).mono ?_
 intro e w4 hq
 obtain ⟨rfl,H4⟩ := H3.wrote hq
 clear hq
 obtain ⟨a4_0,a4_1,a4_2,a4_3,a4_4,a4_5,a4_6⟩ := z7 H4.2.2.1
 have hX4 := H4.2.1 _ (.inr rfl)
 go_wp2_with fail
 exact bodyPost_end (results_none rfl _ _ _) rfl (by rw [HF2.out]; exact H4.fin)
theorem instr_6 (wb pb mb : Nat) (o n k : Int) (s c m d : ByteArray) (hU : usesI o = 6) (ho : 0 < o /\ o < 44) (hz : s.size <= 1000 /\ c.size <= 1000 /\ m.size <= 1000 /\ d.size <= 1000 /\ (0 <= k /\ k <= 2000) /\ (-2147483648 <= n /\ n <= 2147483647)) (ok : Nat -> Prop) (st : WS) (w : World) (hw : Wt w ok wb pb mb st) (hok : ∀ b,ok b -> b < w.heap.size) (hroom : Room st 4) :
  Calls Tryz.prog 73 #[.pointer (some ⟨wb,0,none⟩),.agg #[.int .i64 o,.int .i32 n,.int .i64 k,.string s,.string c,.string m,.string d]] w (Wrote ok wb pb mb (wIns (o,n,k,s,c,m,d) st) w) := by
 obtain ⟨hs,hc,hm,hd,hk,hn⟩ := hz
 have R1 := hroom.next (b := 3) (ext_nums (n := 1) (zs := [o]) (by simp; omega) (by simp)) (by decide)
 have HF : Hid (∀ st,wUse (o,n,k,s,c,m,d) st = (wText c) st) := hid (fun st => by unfold wUse; simp [hU])
 have HF2 : Hid (wIns (o,n,k,s,c,m,d) st = (wText c) (wNums [o] st)) := hid (by unfold wIns; exact HF.out _)
 have H0 := Sit.start [.int .i64 o,.int .i32 n,.int .i64 k,.string s,.string c,.string m,.string d] 31 hw hok
 go_enter Tryz.func73,Tryz.ntmps73
 go_wp2_with fail
 refine (num_w1 (w.heap.size + 1) _ wb pb mb _ o _ (by simp) _ H0.1 H0.2.1 (by omega) (by omega) (hroom.le (by decide))).mono ?_
 intro e w1 hq
 obtain ⟨rfl,H1⟩ := (H0.alloc _).wrote hq
 clear hq
 obtain ⟨a1_0,a1_1,a1_2,a1_3,a1_4,a1_5,a1_6⟩ := z7 H1.2.2.1
 have hX1 := H1.2.1 _ (.inr rfl)
 go_wp2_with fail
 refine (uses_any o _).mono ?_
 rintro e w' ⟨rfl,rfl⟩
 go_wp2_with fail
 refine (text_w _ wb pb mb _ c _ H1.1 H1.2.1 (by omega) (R1.le (by decide))).mono ?_
 intro e w2 hq
 obtain ⟨rfl,H2⟩ := H1.wrote hq
 clear hq
 obtain ⟨a2_0,a2_1,a2_2,a2_3,a2_4,a2_5,a2_6⟩ := z7 H2.2.2.1
 have hX2 := H2.2.1 _ (.inr rfl)
 go_wp2_with fail
 exact bodyPost_end (results_none rfl _ _ _) rfl (by rw [HF2.out]; exact H2.fin)
theorem instr_put (wb pb mb : Nat) (x : Ins) (hx : goodI x) (ok : Nat -> Prop) (vs : List Value) (st : WS) (w : World) (hw : Wt w ok wb pb mb st) (hok : ∀ b,ok b -> b < w.heap.size) (hv : (sP insC) ok w vs x) (hroom : Room st 4) :
  Calls Tryz.prog 73 #[.pointer (some ⟨wb,0,none⟩),.agg vs.toArray] w (Wrote ok wb pb mb (wIns x st) w) := by
 obtain ⟨o,n,k,s,c,m,d⟩ := x
 have hvs : vs = insC (o,n,k,s,c,m,d) := hv
 subst hvs
 obtain ⟨s1,s2,s3,s4,o1,o2,k1,k2⟩ := right_sizes hx.1
 have hn := hx.2
 unfold okI at hn
 simp only at s1 s2 s3 s4 o1 o2 k1 k2 hn
 rcases uses_six o with h | h | h | h | h | h | h
 ·exact instr_0 wb pb mb o n k s c m d h ⟨o1,o2⟩ ⟨s1,by omega,by omega,by omega,⟨k1,k2⟩,hn⟩ ok st w hw hok hroom
 ·exact instr_1 wb pb mb o n k s c m d h ⟨o1,o2⟩ ⟨s1,by omega,by omega,by omega,⟨k1,k2⟩,hn⟩ ok st w hw hok hroom
 ·exact instr_2 wb pb mb o n k s c m d h ⟨o1,o2⟩ ⟨s1,by omega,by omega,by omega,⟨k1,k2⟩,hn⟩ ok st w hw hok hroom
 ·exact instr_3 wb pb mb o n k s c m d h ⟨o1,o2⟩ ⟨s1,by omega,by omega,by omega,⟨k1,k2⟩,hn⟩ ok st w hw hok hroom
 ·exact instr_4 wb pb mb o n k s c m d h ⟨o1,o2⟩ ⟨s1,by omega,by omega,by omega,⟨k1,k2⟩,hn⟩ ok st w hw hok hroom
 ·exact instr_5 wb pb mb o n k s c m d h ⟨o1,o2⟩ ⟨s1,by omega,by omega,by omega,⟨k1,k2⟩,hn⟩ ok st w hw hok hroom
 ·exact instr_6 wb pb mb o n k s c m d h ⟨o1,o2⟩ ⟨s1,by omega,by omega,by omega,⟨k1,k2⟩,hn⟩ ok st w hw hok hroom
end Go.Proofs.YtofnbapnmhibaaaGreat.A
namespace Go.Proofs.YtofnbapnmhibaaaGreat.A
open Go.RowKit Go.Proofs.YtofnbapnmhibaaaGreat.D Go.Proofs.YtofnbapnmhibaaaGreat.O
theorem num2_d (g : Nat) (ok : Nat -> Prop) (wb pb mb : Nat) (st : WS) (x y : Int) (w : World) (hg : g = w.heap.size) (T : TypeId) (h : Wt w ok wb pb mb st) (hok : ∀ x,ok x -> x < w.heap.size) (hx : 0 <= x /\ x <= 2000) (hy : 0 <= y /\ y <= 2000) (hr : Room st 1) :
  Calls Tryz.prog 49 #[.pointer (some ⟨wb,0,none⟩),.slice (some ⟨g,0,none⟩) 2 2] (w.alloc (.cells #[.int .i64 x,.int .i64 y] T)).drew (Wrote ok wb pb mb (wNums [x,y] st) (w.alloc (.cells #[.int .i64 x,.int .i64 y] T)).drew) := by
 subst hg
 refine nums_w ok wb pb mb st _ 2 2 [x,y] 1 _ (h.below ((Below.refl _ _).alloc (Nat.le_refl _) _).drew (fun _ hx => .inl hx)) (fun x hx => by have := hok x hx; simp; omega) (by
   intro u hu
   simp only [List.mem_cons,List.not_mem_nil,or_false] at hu
   rcases hu with rfl | rfl <;> omega) (by simp) (by decide) hr ?_ (fun g hg => by cases hg; simp)
 exact (rdI_lit (vs := [.int .i64 x,.int .i64 y]) (zs := [x,y]) T rfl (by
   intro u hu
   simp only [List.mem_cons,List.not_mem_nil,or_false] at hu
   rcases hu with rfl | rfl <;> omega) : RdI (w.alloc (.cells #[.int .i64 x,.int .i64 y] T)) _ _)
theorem method_true_true (wb pb mb : Nat) (nm : ByteArray) (ps : List Ty) (r0 : Int) (r1 : ByteArray) (lo : Int) (code : List Ins) (hs : List Hnd) (pp pc ph : Option Addr) (np nc nh cp cc ch : Nat) (hx : goodM (⟨nm,ps,(r0,r1),true,true,lo,code,hs⟩ : Mth)) (ok : Nat -> Prop) (st : WS) (w : World) (hw : Wt w ok wb pb mb st) (hok : ∀ b,ok b -> b < w.heap.size)
  (hp : RdX 2 (sP tyC) ok w (.slice pp np cp) ps) (hc : RdX 7 (sP insC) ok w (.slice pc nc cc) code) (hh : RdX 4 (sP hndC) ok w (.slice ph nh ch) hs) (hroom : Room st (costM (⟨nm,ps,(r0,r1),true,true,lo,code,hs⟩ : Mth))) :
  Calls Tryz.prog 56 #[.pointer (some ⟨wb,0,none⟩),.agg #[.string nm,.slice pp np cp,.int .i64 r0,.string r1,.bool true,.bool true,.int .i64 lo,.slice pc nc cc,.slice ph nh ch]] w (Wrote ok wb pb mb (wMth (⟨nm,ps,(r0,r1),true,true,lo,code,hs⟩ : Mth) st) w) := by
 obtain ⟨hx,hwf⟩ := hx
 unfold mthB at hx
 simp only [Bool.and_eq_true,allB_iff,upToB_iff] at hx
 obtain ⟨⟨⟨⟨⟨hn,hps⟩,hr⟩,l0,l1⟩,hcode⟩,hhs⟩ := hx
 unfold costM at hroom
 simp only at hroom
 have g1 := name_size hn
 have g2 := ofT_size (r := (r0,r1)) hps.2 hps.1 hr
 have hzp : ∀ u ∈ ps,u.2.size <= 1000000 := fun u hu => by
  have := hps.2 u hu
  unfold holdsB at this
  simp only [Bool.and_eq_true] at this
  have h := this.1
  unfold rightB at h
  split at h
  ·have := name_size h; omega
  ·simp only [Bool.and_eq_true,decide_eq_true_eq] at h; omega
 have hzr : r1.size <= 1000000 := by
  have h := hr
  unfold rightB at h
  split at h
  ·have := name_size h; omega
  ·simp only [Bool.and_eq_true,decide_eq_true_eq] at h; omega
 have hG1 : ∀ x ∈ code,goodI x := fun x hx => ⟨hcode.2 x hx,hwf x hx⟩
 have hs1 := sum_const (α := Ins) 4 code
 have hs2 := sum_const (α := Hnd) 2 hs
 have hl1 : code.length <= 1000000 := by have := hcode.1; omega
 have hl2 : hs.length <= 1000000 := by have := hhs.1; omega
 have hl8 : ps.length <= 1000 := by have := hps.1; omega
 have R1 := hroom.next (b := 4 + code.length * 4 + hs.length * 2) (ext_text (s := nm) (by omega)) (by omega)
 have R2 := R1.next (b := 3 + code.length * 4 + hs.length * 2) (ext_text (s := ofT ps (r0,r1)) (by omega)) (by omega)
 have R3 := R2.next (b := 2 + code.length * 4 + hs.length * 2) (ext_nums (n := 1) (zs := [3,lo]) (by simp; omega) (by simp)) (by omega)
 have E1 := ext_list (f := wIns) (c := fun _ => 4) (l := code) (fun x hx => ext_ins (hcode.2 x hx) (hwf x hx)) (by omega)
 rw [hs1] at E1
 have R4 := R3.next (b := 1 + hs.length * 2) E1 (by omega)
 have HP := hid hp
 have HC := hid hc
 have HH := hid hh
 have HG := hid hG1
 have HS := hid hhs.2
 have HZ := hid hzp
 have HS1 := hid hs1
 have HS2 := hid hs2
 clear hp hc hh hG1 hzp hs1 hs2 hps hcode hhs hwf hr hn E1
 have H0 := Sit.start [.string nm,.slice pp np cp,.int .i64 r0,.string r1,.bool true,.bool true,.int .i64 lo,.slice pc nc cc,.slice ph nh ch] 29 hw hok
 go_enter Tryz.func56,Tryz.ntmps56
 go_wp2_with fail
 refine (text_w _ wb pb mb _ nm _ H0.1 H0.2.1 (by omega) (hroom.le (by omega))).mono ?_
 intro e w1 hq
 obtain ⟨rfl,H1⟩ := H0.wrote hq
 clear hq
 obtain ⟨a1_0,a1_1,a1_2,a1_3,a1_4,a1_5,a1_6,a1_7,a1_8⟩ := z9 H1.2.2.1
 have hX1 := H1.2.1 _ (.inr rfl)
 go_wp2_with fail
 refine (of_any _ ps r0 r1 _ (rdT_of (H1.rd (sP.grow _) HP.out)) hl8 HZ.out hzr).mono ?_
 rintro e w2 ⟨rfl,hb2⟩
 have H2 := H1.below hb2
 obtain ⟨a2_0,a2_1,a2_2,a2_3,a2_4,a2_5,a2_6,a2_7,a2_8⟩ := z9 H2.2.2.1
 have hX2 := H2.2.1 _ (.inr rfl)
 go_wp2_with fail
 refine (text_w _ wb pb mb _ (ofT ps (r0,r1)) _ H2.1 H2.2.1 (by omega) (R1.le (by omega))).mono ?_
 intro e w3 hq
 obtain ⟨rfl,H3⟩ := H2.wrote hq
 clear hq
 obtain ⟨a3_0,a3_1,a3_2,a3_3,a3_4,a3_5,a3_6,a3_7,a3_8⟩ := z9 H3.2.2.1
 have hX3 := H3.2.1 _ (.inr rfl)
 have hb1 : bitN true 1 = 1 := rfl
 have hb2 : bitN true 2 = 2 := rfl
 have hbits : bits BinOp.or IntKind.i64 1 2 = 3 := by decide
 go_wp2_with fail
 go_region_law (first
  | (rw [if_pos (by rfl)]; go_simp; go_at_call 69; refine (bit_any _ _ _).mono ?_; rintro e w' ⟨rfl,rfl⟩)
  | (rw [if_pos (by rfl)]; go_simp; go_at_call 49; refine (num2_d w3.heap.size _ wb pb mb _ 3 lo _ rfl _ H3.1 H3.2.1 (by decide) ⟨l0,by omega⟩ (R2.le (by omega))).mono ?_; intro e w4 hq; obtain ⟨rfl,H4⟩ := (H3.alloc _).drew.wrote hq; clear hq))
 all_goals
  obtain ⟨a4_0,a4_1,a4_2,a4_3,a4_4,a4_5,a4_6,a4_7,a4_8⟩ := z9 H4.2.2.1
  have hX4 := H4.2.1 _ (.inr rfl)
  go_wp2_with fail
  refine (putList_ins wIns (fun _ => 4) goodI wb pb mb (fun x hx => ext_ins hx.1 hx.2) (fun x hx => instr_put wb pb mb x hx) code _ _ _ _ _ _ H4.1 H4.2.1 (H4.rd (sP.grow _) HC.out) HG.out (by rw [HS1.out]; exact R3.le (by omega)) hl1).mono ?_
  intro e w5 hq
  obtain ⟨rfl,H5⟩ := H4.wrote hq
  clear hq
  obtain ⟨a5_0,a5_1,a5_2,a5_3,a5_4,a5_5,a5_6,a5_7,a5_8⟩ := z9 H5.2.2.1
  have hX5 := H5.2.1 _ (.inr rfl)
  go_wp2_with fail
  refine (putList_hnd wHnd (fun _ => 2) (fun x => hndB x = true) wb pb mb (fun x hx => ext_hnd hx) (fun x hx => handler_put wb pb mb x hx) hs _ _ _ _ _ _ H5.1 H5.2.1 (H5.rd (sP.grow _) HH.out) HS.out (by rw [HS2.out]; exact R4) hl2).mono ?_
  intro e w6 hq
  obtain ⟨rfl,H6⟩ := H5.wrote hq
  clear hq
  obtain ⟨a6_0,a6_1,a6_2,a6_3,a6_4,a6_5,a6_6,a6_7,a6_8⟩ := z9 H6.2.2.1
  have hX6 := H6.2.1 _ (.inr rfl)
  go_wp2_with fail
  exact bodyPost_end (results_none rfl _ _ _) rfl H6.fin
theorem method_true_false (wb pb mb : Nat) (nm : ByteArray) (ps : List Ty) (r0 : Int) (r1 : ByteArray) (lo : Int) (code : List Ins) (hs : List Hnd) (pp pc ph : Option Addr) (np nc nh cp cc ch : Nat) (hx : goodM (⟨nm,ps,(r0,r1),true,false,lo,code,hs⟩ : Mth)) (ok : Nat -> Prop) (st : WS) (w : World) (hw : Wt w ok wb pb mb st) (hok : ∀ b,ok b -> b < w.heap.size)
  (hp : RdX 2 (sP tyC) ok w (.slice pp np cp) ps) (hc : RdX 7 (sP insC) ok w (.slice pc nc cc) code) (hh : RdX 4 (sP hndC) ok w (.slice ph nh ch) hs) (hroom : Room st (costM (⟨nm,ps,(r0,r1),true,false,lo,code,hs⟩ : Mth))) :
  Calls Tryz.prog 56 #[.pointer (some ⟨wb,0,none⟩),.agg #[.string nm,.slice pp np cp,.int .i64 r0,.string r1,.bool true,.bool false,.int .i64 lo,.slice pc nc cc,.slice ph nh ch]] w (Wrote ok wb pb mb (wMth (⟨nm,ps,(r0,r1),true,false,lo,code,hs⟩ : Mth) st) w) := by
 obtain ⟨hx,hwf⟩ := hx
 unfold mthB at hx
 simp only [Bool.and_eq_true,allB_iff,upToB_iff] at hx
 obtain ⟨⟨⟨⟨⟨hn,hps⟩,hr⟩,l0,l1⟩,hcode⟩,hhs⟩ := hx
 unfold costM at hroom
 simp only at hroom
 have g1 := name_size hn
 have g2 := ofT_size (r := (r0,r1)) hps.2 hps.1 hr
 have hzp : ∀ u ∈ ps,u.2.size <= 1000000 := fun u hu => by
  have := hps.2 u hu
  unfold holdsB at this
  simp only [Bool.and_eq_true] at this
  have h := this.1
  unfold rightB at h
  split at h
  ·have := name_size h; omega
  ·simp only [Bool.and_eq_true,decide_eq_true_eq] at h; omega
 have hzr : r1.size <= 1000000 := by
  have h := hr
  unfold rightB at h
  split at h
  ·have := name_size h; omega
  ·simp only [Bool.and_eq_true,decide_eq_true_eq] at h; omega
 have hG1 : ∀ x ∈ code,goodI x := fun x hx => ⟨hcode.2 x hx,hwf x hx⟩
 have hs1 := sum_const (α := Ins) 4 code
 have hs2 := sum_const (α := Hnd) 2 hs
 have hl1 : code.length <= 1000000 := by have := hcode.1; omega
 have hl2 : hs.length <= 1000000 := by have := hhs.1; omega
 have hl8 : ps.length <= 1000 := by have := hps.1; omega
 have R1 := hroom.next (b := 4 + code.length * 4 + hs.length * 2) (ext_text (s := nm) (by omega)) (by omega)
 have R2 := R1.next (b := 3 + code.length * 4 + hs.length * 2) (ext_text (s := ofT ps (r0,r1)) (by omega)) (by omega)
 have R3 := R2.next (b := 2 + code.length * 4 + hs.length * 2) (ext_nums (n := 1) (zs := [1,lo]) (by simp; omega) (by simp)) (by omega)
 have E1 := ext_list (f := wIns) (c := fun _ => 4) (l := code) (fun x hx => ext_ins (hcode.2 x hx) (hwf x hx)) (by omega)
 rw [hs1] at E1
 have R4 := R3.next (b := 1 + hs.length * 2) E1 (by omega)
 have HP := hid hp
 have HC := hid hc
 have HH := hid hh
 have HG := hid hG1
 have HS := hid hhs.2
 have HZ := hid hzp
 have HS1 := hid hs1
 have HS2 := hid hs2
 clear hp hc hh hG1 hzp hs1 hs2 hps hcode hhs hwf hr hn E1
 have H0 := Sit.start [.string nm,.slice pp np cp,.int .i64 r0,.string r1,.bool true,.bool false,.int .i64 lo,.slice pc nc cc,.slice ph nh ch] 29 hw hok
 go_enter Tryz.func56,Tryz.ntmps56
 go_wp2_with fail
 refine (text_w _ wb pb mb _ nm _ H0.1 H0.2.1 (by omega) (hroom.le (by omega))).mono ?_
 intro e w1 hq
 obtain ⟨rfl,H1⟩ := H0.wrote hq
 clear hq
 obtain ⟨a1_0,a1_1,a1_2,a1_3,a1_4,a1_5,a1_6,a1_7,a1_8⟩ := z9 H1.2.2.1
 have hX1 := H1.2.1 _ (.inr rfl)
 go_wp2_with fail
 refine (of_any _ ps r0 r1 _ (rdT_of (H1.rd (sP.grow _) HP.out)) hl8 HZ.out hzr).mono ?_
 rintro e w2 ⟨rfl,hb2⟩
 have H2 := H1.below hb2
 obtain ⟨a2_0,a2_1,a2_2,a2_3,a2_4,a2_5,a2_6,a2_7,a2_8⟩ := z9 H2.2.2.1
 have hX2 := H2.2.1 _ (.inr rfl)
 go_wp2_with fail
 refine (text_w _ wb pb mb _ (ofT ps (r0,r1)) _ H2.1 H2.2.1 (by omega) (R1.le (by omega))).mono ?_
 intro e w3 hq
 obtain ⟨rfl,H3⟩ := H2.wrote hq
 clear hq
 obtain ⟨a3_0,a3_1,a3_2,a3_3,a3_4,a3_5,a3_6,a3_7,a3_8⟩ := z9 H3.2.2.1
 have hX3 := H3.2.1 _ (.inr rfl)
 have hb1 : bitN true 1 = 1 := rfl
 have hb2 : bitN false 2 = 0 := rfl
 have hbits : bits BinOp.or IntKind.i64 1 0 = 1 := by decide
 go_wp2_with fail
 go_region_law (first
  | (rw [if_pos (by rfl)]; go_simp; go_at_call 69; refine (bit_any _ _ _).mono ?_; rintro e w' ⟨rfl,rfl⟩)
  | (rw [if_pos (by rfl)]; go_simp; go_at_call 49; refine (num2_d w3.heap.size _ wb pb mb _ 1 lo _ rfl _ H3.1 H3.2.1 (by decide) ⟨l0,by omega⟩ (R2.le (by omega))).mono ?_; intro e w4 hq; obtain ⟨rfl,H4⟩ := (H3.alloc _).drew.wrote hq; clear hq))
 all_goals
  obtain ⟨a4_0,a4_1,a4_2,a4_3,a4_4,a4_5,a4_6,a4_7,a4_8⟩ := z9 H4.2.2.1
  have hX4 := H4.2.1 _ (.inr rfl)
  go_wp2_with fail
  refine (putList_ins wIns (fun _ => 4) goodI wb pb mb (fun x hx => ext_ins hx.1 hx.2) (fun x hx => instr_put wb pb mb x hx) code _ _ _ _ _ _ H4.1 H4.2.1 (H4.rd (sP.grow _) HC.out) HG.out (by rw [HS1.out]; exact R3.le (by omega)) hl1).mono ?_
  intro e w5 hq
  obtain ⟨rfl,H5⟩ := H4.wrote hq
  clear hq
  obtain ⟨a5_0,a5_1,a5_2,a5_3,a5_4,a5_5,a5_6,a5_7,a5_8⟩ := z9 H5.2.2.1
  have hX5 := H5.2.1 _ (.inr rfl)
  go_wp2_with fail
  refine (putList_hnd wHnd (fun _ => 2) (fun x => hndB x = true) wb pb mb (fun x hx => ext_hnd hx) (fun x hx => handler_put wb pb mb x hx) hs _ _ _ _ _ _ H5.1 H5.2.1 (H5.rd (sP.grow _) HH.out) HS.out (by rw [HS2.out]; exact R4) hl2).mono ?_
  intro e w6 hq
  obtain ⟨rfl,H6⟩ := H5.wrote hq
  clear hq
  obtain ⟨a6_0,a6_1,a6_2,a6_3,a6_4,a6_5,a6_6,a6_7,a6_8⟩ := z9 H6.2.2.1
  have hX6 := H6.2.1 _ (.inr rfl)
  go_wp2_with fail
  exact bodyPost_end (results_none rfl _ _ _) rfl H6.fin
theorem method_false_true (wb pb mb : Nat) (nm : ByteArray) (ps : List Ty) (r0 : Int) (r1 : ByteArray) (lo : Int) (code : List Ins) (hs : List Hnd) (pp pc ph : Option Addr) (np nc nh cp cc ch : Nat) (hx : goodM (⟨nm,ps,(r0,r1),false,true,lo,code,hs⟩ : Mth)) (ok : Nat -> Prop) (st : WS) (w : World) (hw : Wt w ok wb pb mb st) (hok : ∀ b,ok b -> b < w.heap.size)
  (hp : RdX 2 (sP tyC) ok w (.slice pp np cp) ps) (hc : RdX 7 (sP insC) ok w (.slice pc nc cc) code) (hh : RdX 4 (sP hndC) ok w (.slice ph nh ch) hs) (hroom : Room st (costM (⟨nm,ps,(r0,r1),false,true,lo,code,hs⟩ : Mth))) :
  Calls Tryz.prog 56 #[.pointer (some ⟨wb,0,none⟩),.agg #[.string nm,.slice pp np cp,.int .i64 r0,.string r1,.bool false,.bool true,.int .i64 lo,.slice pc nc cc,.slice ph nh ch]] w (Wrote ok wb pb mb (wMth (⟨nm,ps,(r0,r1),false,true,lo,code,hs⟩ : Mth) st) w) := by
 obtain ⟨hx,hwf⟩ := hx
 unfold mthB at hx
 simp only [Bool.and_eq_true,allB_iff,upToB_iff] at hx
 obtain ⟨⟨⟨⟨⟨hn,hps⟩,hr⟩,l0,l1⟩,hcode⟩,hhs⟩ := hx
 unfold costM at hroom
 simp only at hroom
 have g1 := name_size hn
 have g2 := ofT_size (r := (r0,r1)) hps.2 hps.1 hr
 have hzp : ∀ u ∈ ps,u.2.size <= 1000000 := fun u hu => by
  have := hps.2 u hu
  unfold holdsB at this
  simp only [Bool.and_eq_true] at this
  have h := this.1
  unfold rightB at h
  split at h
  ·have := name_size h; omega
  ·simp only [Bool.and_eq_true,decide_eq_true_eq] at h; omega
 have hzr : r1.size <= 1000000 := by
  have h := hr
  unfold rightB at h
  split at h
  ·have := name_size h; omega
  ·simp only [Bool.and_eq_true,decide_eq_true_eq] at h; omega
 have hG1 : ∀ x ∈ code,goodI x := fun x hx => ⟨hcode.2 x hx,hwf x hx⟩
 have hs1 := sum_const (α := Ins) 4 code
 have hs2 := sum_const (α := Hnd) 2 hs
 have hl1 : code.length <= 1000000 := by have := hcode.1; omega
 have hl2 : hs.length <= 1000000 := by have := hhs.1; omega
 have hl8 : ps.length <= 1000 := by have := hps.1; omega
 have R1 := hroom.next (b := 4 + code.length * 4 + hs.length * 2) (ext_text (s := nm) (by omega)) (by omega)
 have R2 := R1.next (b := 3 + code.length * 4 + hs.length * 2) (ext_text (s := ofT ps (r0,r1)) (by omega)) (by omega)
 have R3 := R2.next (b := 2 + code.length * 4 + hs.length * 2) (ext_nums (n := 1) (zs := [2,lo]) (by simp; omega) (by simp)) (by omega)
 have E1 := ext_list (f := wIns) (c := fun _ => 4) (l := code) (fun x hx => ext_ins (hcode.2 x hx) (hwf x hx)) (by omega)
 rw [hs1] at E1
 have R4 := R3.next (b := 1 + hs.length * 2) E1 (by omega)
 have HP := hid hp
 have HC := hid hc
 have HH := hid hh
 have HG := hid hG1
 have HS := hid hhs.2
 have HZ := hid hzp
 have HS1 := hid hs1
 have HS2 := hid hs2
 clear hp hc hh hG1 hzp hs1 hs2 hps hcode hhs hwf hr hn E1
 have H0 := Sit.start [.string nm,.slice pp np cp,.int .i64 r0,.string r1,.bool false,.bool true,.int .i64 lo,.slice pc nc cc,.slice ph nh ch] 29 hw hok
 go_enter Tryz.func56,Tryz.ntmps56
 go_wp2_with fail
 refine (text_w _ wb pb mb _ nm _ H0.1 H0.2.1 (by omega) (hroom.le (by omega))).mono ?_
 intro e w1 hq
 obtain ⟨rfl,H1⟩ := H0.wrote hq
 clear hq
 obtain ⟨a1_0,a1_1,a1_2,a1_3,a1_4,a1_5,a1_6,a1_7,a1_8⟩ := z9 H1.2.2.1
 have hX1 := H1.2.1 _ (.inr rfl)
 go_wp2_with fail
 refine (of_any _ ps r0 r1 _ (rdT_of (H1.rd (sP.grow _) HP.out)) hl8 HZ.out hzr).mono ?_
 rintro e w2 ⟨rfl,hb2⟩
 have H2 := H1.below hb2
 obtain ⟨a2_0,a2_1,a2_2,a2_3,a2_4,a2_5,a2_6,a2_7,a2_8⟩ := z9 H2.2.2.1
 have hX2 := H2.2.1 _ (.inr rfl)
 go_wp2_with fail
 refine (text_w _ wb pb mb _ (ofT ps (r0,r1)) _ H2.1 H2.2.1 (by omega) (R1.le (by omega))).mono ?_
 intro e w3 hq
 obtain ⟨rfl,H3⟩ := H2.wrote hq
 clear hq
 obtain ⟨a3_0,a3_1,a3_2,a3_3,a3_4,a3_5,a3_6,a3_7,a3_8⟩ := z9 H3.2.2.1
 have hX3 := H3.2.1 _ (.inr rfl)
 have hb1 : bitN false 1 = 0 := rfl
 have hb2 : bitN true 2 = 2 := rfl
 have hbits : bits BinOp.or IntKind.i64 0 2 = 2 := by decide
 go_wp2_with fail
 go_region_law (first
  | (rw [if_pos (by rfl)]; go_simp; go_at_call 69; refine (bit_any _ _ _).mono ?_; rintro e w' ⟨rfl,rfl⟩)
  | (rw [if_pos (by rfl)]; go_simp; go_at_call 49; refine (num2_d w3.heap.size _ wb pb mb _ 2 lo _ rfl _ H3.1 H3.2.1 (by decide) ⟨l0,by omega⟩ (R2.le (by omega))).mono ?_; intro e w4 hq; obtain ⟨rfl,H4⟩ := (H3.alloc _).drew.wrote hq; clear hq))
 all_goals
  obtain ⟨a4_0,a4_1,a4_2,a4_3,a4_4,a4_5,a4_6,a4_7,a4_8⟩ := z9 H4.2.2.1
  have hX4 := H4.2.1 _ (.inr rfl)
  go_wp2_with fail
  refine (putList_ins wIns (fun _ => 4) goodI wb pb mb (fun x hx => ext_ins hx.1 hx.2) (fun x hx => instr_put wb pb mb x hx) code _ _ _ _ _ _ H4.1 H4.2.1 (H4.rd (sP.grow _) HC.out) HG.out (by rw [HS1.out]; exact R3.le (by omega)) hl1).mono ?_
  intro e w5 hq
  obtain ⟨rfl,H5⟩ := H4.wrote hq
  clear hq
  obtain ⟨a5_0,a5_1,a5_2,a5_3,a5_4,a5_5,a5_6,a5_7,a5_8⟩ := z9 H5.2.2.1
  have hX5 := H5.2.1 _ (.inr rfl)
  go_wp2_with fail
  refine (putList_hnd wHnd (fun _ => 2) (fun x => hndB x = true) wb pb mb (fun x hx => ext_hnd hx) (fun x hx => handler_put wb pb mb x hx) hs _ _ _ _ _ _ H5.1 H5.2.1 (H5.rd (sP.grow _) HH.out) HS.out (by rw [HS2.out]; exact R4) hl2).mono ?_
  intro e w6 hq
  obtain ⟨rfl,H6⟩ := H5.wrote hq
  clear hq
  obtain ⟨a6_0,a6_1,a6_2,a6_3,a6_4,a6_5,a6_6,a6_7,a6_8⟩ := z9 H6.2.2.1
  have hX6 := H6.2.1 _ (.inr rfl)
  go_wp2_with fail
  exact bodyPost_end (results_none rfl _ _ _) rfl H6.fin
theorem method_false_false (wb pb mb : Nat) (nm : ByteArray) (ps : List Ty) (r0 : Int) (r1 : ByteArray) (lo : Int) (code : List Ins) (hs : List Hnd) (pp pc ph : Option Addr) (np nc nh cp cc ch : Nat) (hx : goodM (⟨nm,ps,(r0,r1),false,false,lo,code,hs⟩ : Mth)) (ok : Nat -> Prop) (st : WS) (w : World) (hw : Wt w ok wb pb mb st) (hok : ∀ b,ok b -> b < w.heap.size)
  (hp : RdX 2 (sP tyC) ok w (.slice pp np cp) ps) (hc : RdX 7 (sP insC) ok w (.slice pc nc cc) code) (hh : RdX 4 (sP hndC) ok w (.slice ph nh ch) hs) (hroom : Room st (costM (⟨nm,ps,(r0,r1),false,false,lo,code,hs⟩ : Mth))) :
  Calls Tryz.prog 56 #[.pointer (some ⟨wb,0,none⟩),.agg #[.string nm,.slice pp np cp,.int .i64 r0,.string r1,.bool false,.bool false,.int .i64 lo,.slice pc nc cc,.slice ph nh ch]] w (Wrote ok wb pb mb (wMth (⟨nm,ps,(r0,r1),false,false,lo,code,hs⟩ : Mth) st) w) := by
 obtain ⟨hx,hwf⟩ := hx
 unfold mthB at hx
 simp only [Bool.and_eq_true,allB_iff,upToB_iff] at hx
 obtain ⟨⟨⟨⟨⟨hn,hps⟩,hr⟩,l0,l1⟩,hcode⟩,hhs⟩ := hx
 unfold costM at hroom
 simp only at hroom
 have g1 := name_size hn
 have g2 := ofT_size (r := (r0,r1)) hps.2 hps.1 hr
 have hzp : ∀ u ∈ ps,u.2.size <= 1000000 := fun u hu => by
  have := hps.2 u hu
  unfold holdsB at this
  simp only [Bool.and_eq_true] at this
  have h := this.1
  unfold rightB at h
  split at h
  ·have := name_size h; omega
  ·simp only [Bool.and_eq_true,decide_eq_true_eq] at h; omega
 have hzr : r1.size <= 1000000 := by
  have h := hr
  unfold rightB at h
  split at h
  ·have := name_size h; omega
  ·simp only [Bool.and_eq_true,decide_eq_true_eq] at h; omega
 have hG1 : ∀ x ∈ code,goodI x := fun x hx => ⟨hcode.2 x hx,hwf x hx⟩
 have hs1 := sum_const (α := Ins) 4 code
 have hs2 := sum_const (α := Hnd) 2 hs
 have hl1 : code.length <= 1000000 := by have := hcode.1; omega
 have hl2 : hs.length <= 1000000 := by have := hhs.1; omega
 have hl8 : ps.length <= 1000 := by have := hps.1; omega
 have R1 := hroom.next (b := 4 + code.length * 4 + hs.length * 2) (ext_text (s := nm) (by omega)) (by omega)
 have R2 := R1.next (b := 3 + code.length * 4 + hs.length * 2) (ext_text (s := ofT ps (r0,r1)) (by omega)) (by omega)
 have R3 := R2.next (b := 2 + code.length * 4 + hs.length * 2) (ext_nums (n := 1) (zs := [0,lo]) (by simp; omega) (by simp)) (by omega)
 have E1 := ext_list (f := wIns) (c := fun _ => 4) (l := code) (fun x hx => ext_ins (hcode.2 x hx) (hwf x hx)) (by omega)
 rw [hs1] at E1
 have R4 := R3.next (b := 1 + hs.length * 2) E1 (by omega)
 have HP := hid hp
 have HC := hid hc
 have HH := hid hh
 have HG := hid hG1
 have HS := hid hhs.2
 have HZ := hid hzp
 have HS1 := hid hs1
 have HS2 := hid hs2
 clear hp hc hh hG1 hzp hs1 hs2 hps hcode hhs hwf hr hn E1
 have H0 := Sit.start [.string nm,.slice pp np cp,.int .i64 r0,.string r1,.bool false,.bool false,.int .i64 lo,.slice pc nc cc,.slice ph nh ch] 29 hw hok
 go_enter Tryz.func56,Tryz.ntmps56
 go_wp2_with fail
 refine (text_w _ wb pb mb _ nm _ H0.1 H0.2.1 (by omega) (hroom.le (by omega))).mono ?_
 intro e w1 hq
 obtain ⟨rfl,H1⟩ := H0.wrote hq
 clear hq
 obtain ⟨a1_0,a1_1,a1_2,a1_3,a1_4,a1_5,a1_6,a1_7,a1_8⟩ := z9 H1.2.2.1
 have hX1 := H1.2.1 _ (.inr rfl)
 go_wp2_with fail
 refine (of_any _ ps r0 r1 _ (rdT_of (H1.rd (sP.grow _) HP.out)) hl8 HZ.out hzr).mono ?_
 rintro e w2 ⟨rfl,hb2⟩
 have H2 := H1.below hb2
 obtain ⟨a2_0,a2_1,a2_2,a2_3,a2_4,a2_5,a2_6,a2_7,a2_8⟩ := z9 H2.2.2.1
 have hX2 := H2.2.1 _ (.inr rfl)
 go_wp2_with fail
 refine (text_w _ wb pb mb _ (ofT ps (r0,r1)) _ H2.1 H2.2.1 (by omega) (R1.le (by omega))).mono ?_
 intro e w3 hq
 obtain ⟨rfl,H3⟩ := H2.wrote hq
 clear hq
 obtain ⟨a3_0,a3_1,a3_2,a3_3,a3_4,a3_5,a3_6,a3_7,a3_8⟩ := z9 H3.2.2.1
 have hX3 := H3.2.1 _ (.inr rfl)
 have hb1 : bitN false 1 = 0 := rfl
 have hb2 : bitN false 2 = 0 := rfl
 have hbits : bits BinOp.or IntKind.i64 0 0 = 0 := by decide
 go_wp2_with fail
 go_region_law (first
  | (rw [if_pos (by rfl)]; go_simp; go_at_call 69; refine (bit_any _ _ _).mono ?_; rintro e w' ⟨rfl,rfl⟩)
  | (rw [if_pos (by rfl)]; go_simp; go_at_call 49; refine (num2_d w3.heap.size _ wb pb mb _ 0 lo _ rfl _ H3.1 H3.2.1 (by decide) ⟨l0,by omega⟩ (R2.le (by omega))).mono ?_; intro e w4 hq; obtain ⟨rfl,H4⟩ := (H3.alloc _).drew.wrote hq; clear hq))
 all_goals
  obtain ⟨a4_0,a4_1,a4_2,a4_3,a4_4,a4_5,a4_6,a4_7,a4_8⟩ := z9 H4.2.2.1
  have hX4 := H4.2.1 _ (.inr rfl)
  go_wp2_with fail
  refine (putList_ins wIns (fun _ => 4) goodI wb pb mb (fun x hx => ext_ins hx.1 hx.2) (fun x hx => instr_put wb pb mb x hx) code _ _ _ _ _ _ H4.1 H4.2.1 (H4.rd (sP.grow _) HC.out) HG.out (by rw [HS1.out]; exact R3.le (by omega)) hl1).mono ?_
  intro e w5 hq
  obtain ⟨rfl,H5⟩ := H4.wrote hq
  clear hq
  obtain ⟨a5_0,a5_1,a5_2,a5_3,a5_4,a5_5,a5_6,a5_7,a5_8⟩ := z9 H5.2.2.1
  have hX5 := H5.2.1 _ (.inr rfl)
  go_wp2_with fail
  refine (putList_hnd wHnd (fun _ => 2) (fun x => hndB x = true) wb pb mb (fun x hx => ext_hnd hx) (fun x hx => handler_put wb pb mb x hx) hs _ _ _ _ _ _ H5.1 H5.2.1 (H5.rd (sP.grow _) HH.out) HS.out (by rw [HS2.out]; exact R4) hl2).mono ?_
  intro e w6 hq
  obtain ⟨rfl,H6⟩ := H5.wrote hq
  clear hq
  obtain ⟨a6_0,a6_1,a6_2,a6_3,a6_4,a6_5,a6_6,a6_7,a6_8⟩ := z9 H6.2.2.1
  have hX6 := H6.2.1 _ (.inr rfl)
  go_wp2_with fail
  exact bodyPost_end (results_none rfl _ _ _) rfl H6.fin
end Go.Proofs.YtofnbapnmhibaaaGreat.A
