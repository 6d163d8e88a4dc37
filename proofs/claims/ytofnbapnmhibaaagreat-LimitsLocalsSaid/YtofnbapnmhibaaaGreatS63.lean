/- Texts that the proof is made of, joined. No condition. -/
import Derived.Test.YtofnbapnmhibaaaGreatS62
import Derived.Deep.RegionHeld3
import Derived.RegionTactic
import Derived.Test.YtofnbapnmhibaaaGreatS6H
set_option linter.unusedVariables false
set_option linter.unusedSimpArgs false
set_option maxRecDepth 100000
set_option maxHeartbeats 16000000
namespace Go.Proofs.YtofnbapnmhibaaaGreat.D
open Go.RowKit
theorem wp_appT {w : World} {ops : Array Oper} {rest : List Oper} {o : Oper} {a : Act} {Q : Exit -> Act -> World -> Prop} (hgd : o.guard = none) (s x : Operand)
  (ho : o.op = .call { callee := .builtin .append,args := #[s,x],argTypes := #[23,23] })
  (B : Nat) (v : Value) (ts : List Ty) (hs : a.eval s = v) (hown : OwnT w B v ts) (t : Ty) (nb : Nat) (hx : a.eval x = .slice (some ⟨nb,0,none⟩) 1 1)
  (hc0 : w.cell? ⟨nb,0,none⟩ = some (.int .i64 t.1)) (hc1 : w.cell? ⟨nb,1,none⟩ = some (.string t.2))
  (hb : ts.length + 1 <= 1000000) (hbase : B <= w.heap.size)
  (h : ∀ v' w',OwnT w' B v' (ts ++ [t]) -> w.grownBy w' v.ownBlock -> wpList Tryz.prog ops Q rest (a.put o.dst v') w') :
  wpList Tryz.prog ops Q (o :: rest) a w := by
 obtain ⟨i0,hi,hz0,hz1,hz2⟩ := info_parts tyInfo
 refine wpList_append_own w hgd s x 23 ho B 25 i0 (.agg #[.int .i64 0,.string ⟨#[]⟩]) 2 24 Tryz.underlying23 hi hz0 hz1 hz2 rfl (by decide) v ts.length (tyCells ts) hs hown ⟨nb,0,none⟩ 1 1 [.int .i64 t.1,.string t.2] hx (by simp) ?_ ?_
   (by unfold maxLen; omega) (by omega) hbase ?_
 ·intro j u hj
  match j,hj with
  | 0,hj => simp at hj; subst hj; simpa [add0] using hc0
  | 1,hj => simp at hj; subst hj; simpa [add0] using hc1
 ·intro u hu
  simp at hu
  rcases hu with rfl | rfl <;> rfl
 ·intro v' w' h1 h2 _
  refine h v' w' ?_ h2
  unfold OwnT
  rw [List.length_append,tyCells_app]
  exact h1
theorem pre_yes {s : ByteArray} {c : UInt8} {r : List UInt8} (h : s.data.toList = c :: r) (w : World) :
  Calls Tryz.prog 108 #[.string s,.string ⟨#[c]⟩] w fun e w' => e = .returned (.tuple #[.string (bx r),.bool true]) /\ w = w' := by
 refine (Tryz.strings_CutPrefix s ⟨#[c]⟩ w).mono fun e w' ⟨h1,h2⟩ => ⟨?_,h2.symm⟩
 rw [h1,h]
 have : Lib.hasPrefix (c :: r) [c] = true := by simp [Lib.hasPrefix]
 show Ending.returned (.tuple #[.string ⟨(Lib.trimPrefix (c :: r) [c]).toArray⟩,.bool (Lib.hasPrefix (c :: r) [c])]) = _
 unfold Lib.trimPrefix
 rw [this]; rfl
theorem pre_no {s : ByteArray} {c : UInt8} (h : Lib.hasPrefix s.data.toList [c] = false) (w : World) :
  Calls Tryz.prog 108 #[.string s,.string ⟨#[c]⟩] w fun e w' => e = .returned (.tuple #[.string s,.bool false]) /\ w = w' := by
 refine (Tryz.strings_CutPrefix s ⟨#[c]⟩ w).mono fun e w' ⟨h1,h2⟩ => ⟨?_,h2.symm⟩
 rw [h1]
 show Ending.returned (.tuple #[.string ⟨(Lib.trimPrefix s.data.toList [c]).toArray⟩,.bool (Lib.hasPrefix s.data.toList [c])]) = _
 unfold Lib.trimPrefix
 rw [h]; rfl
theorem OwnT.setCell {w : World} {B : Nat} {v : Value} {ts : List Ty} (h : OwnT w B v ts) {a : Addr} (ha : a.block < B) (u : Value) : OwnT (w.setCell a u) B v ts := ownsRow_setCell_below h ha u
theorem OwnT.alloc {w : World} {B : Nat} {v : Value} {ts : List Ty} (h : OwnT w B v ts) (o : Obj) : OwnT (w.alloc o) B v ts := h.below ((Below.refl w.heap.size w).alloc (Nat.le_refl _) o) (Nat.le_refl _)
theorem OwnT.drew {w : World} {B : Nat} {v : Value} {ts : List Ty} (h : OwnT w B v ts) : OwnT w.drew B v ts := h
theorem OwnT.mono {w : World} {B C : Nat} {v : Value} {ts : List Ty} (h : OwnT w B v ts) (hC : C <= B) : OwnT w C v ts := by
 refine ⟨h.1,?_⟩
 rcases h.2 with h' | ⟨g,cap,cur,e,hB,r⟩
 ·exact .inl h'
 ·exact .inr ⟨g,cap,cur,e,Nat.le_trans hC hB,r⟩
theorem box_next {w w1 w2 : World} {a b : Value} (h : w.heap.size < w1.heap.size /\ ¬ w.heap.size = w1.heap.size /\ w1.cell? ⟨w.heap.size,0,none⟩ = some a /\ w1.cell? ⟨w.heap.size,1,none⟩ = some b /\
   w1.frozen? ⟨w.heap.size,0,none⟩ = false /\ w1.frozen? ⟨w.heap.size,1,none⟩ = false /\ Below w.heap.size w w1) (hb : Below w1.heap.size w1 w2) :
  w.heap.size < w2.heap.size /\ ¬ w.heap.size = w2.heap.size /\ w2.cell? ⟨w.heap.size,0,none⟩ = some a /\ w2.cell? ⟨w.heap.size,1,none⟩ = some b /\
   w2.frozen? ⟨w.heap.size,0,none⟩ = false /\ w2.frozen? ⟨w.heap.size,1,none⟩ = false /\ Below w.heap.size w w2 := by
 obtain ⟨h1,h2,h3,h4,h5,h6,h7⟩ := h
 have hs := hb.size
 exact ⟨by omega,by omega,(hb.cell (p := ⟨w.heap.size,0,none⟩) h1).trans h3,(hb.cell (p := ⟨w.heap.size,1,none⟩) h1).trans h4,
  (hb.frozen (p := ⟨w.heap.size,0,none⟩) h1).trans h5,(hb.frozen (p := ⟨w.heap.size,1,none⟩) h1).trans h6,h7.trans (hb.mono (by omega))⟩
theorem listR_false : ∀ (n : Nat) (ps : List Ty) (s : List UInt8) {x : List Ty} {rest : List UInt8},listR n ps s = (x,rest,false) -> x = [] /\ rest = []
 | 0,_,_,_,_,h => by
  simp only [listR,Prod.mk.injEq,and_true] at h
  exact ⟨h.1.symm,h.2.symm⟩
 | n + 1,ps,s,x,rest,h => by
  unfold listR at h
  by_cases hp : Lib.hasPrefix s [41] = true
  ·rw [if_pos hp] at h
   simp at h
  ·rw [if_neg hp] at h
   by_cases hc : (firstR s).2.2 = false ∨ (firstR s).1.1 = 5 ∨ ps.length = 8
   ·rw [if_pos hc] at h
    simp only [Prod.mk.injEq,and_true] at h
    exact ⟨h.1.symm,h.2.symm⟩
   ·rw [if_neg hc] at h
    exact listR_false n _ _ h
def strLen : Value -> Nat
 | .string b => b.size
 | _ => 0
theorem listR_yes {n : Nat} {ps : List Ty} {r : List UInt8} : listR (n + 1) ps (41 :: r) = (ps,r,true) := by
 unfold listR; rw [if_pos (by simp [Lib.hasPrefix])]; rfl
theorem listR_no {n : Nat} {ps : List Ty} {l : List UInt8} (h : Lib.hasPrefix l [41] = false) : listR (n + 1) ps l = if (firstR l).2.2 = false ∨ (firstR l).1.1 = 5 ∨ ps.length = 8 then ([],[],false) else listR n (ps ++ [(firstR l).1]) (firstR l).2.1 := by
 rw [listR,if_neg (by rw [h]; decide)]
theorem list_any (s : ByteArray) (w : World) (hg : Glob w) (hs : s.size <= 4294967280) :
  Calls Tryz.prog 109 #[.string s] w fun e w' => ∃ v ps rest ok,Hid (listR (s.size + 1) [] s.data.toList = (ps,rest,ok)) /\ e = .returned (.tuple #[v,.string (bx rest),.bool ok]) /\ OwnT w' w.heap.size v ps /\ Below w.heap.size w w' := by
 go_enter Tryz.func109,Tryz.ntmps109
 go_wp2_with fail
 go_loopw [0,5] (fun x p wr => ∃ (n : Nat) (ts : List Ty) (l : List UInt8),x = .string (bx l) /\ OwnT wr w.heap.size p ts /\ Hid (listR (s.size + 1) [] s.data.toList = listR n ts l) /\ l.length < n /\ ts.length <= 8 /\ l.length <= 4294967280 /\ Below w.heap.size w wr) (fun x _ _ => strLen x)
 case atStart => exact ⟨s.size + 1,[],s.data.toList,by rw [bx,Lib.mk_data],OwnT.nil _ _,hid rfl,by rw [<- Lib.size_eq]; omega,by simp,by rw [<- Lib.size_eq]; exact hs,Below.refl _ _⟩
 case round =>
  obtain ⟨n,ts,l,rfl,ho,HL,hn,ht8,hl,hbl⟩ := hrel
  have hsr := hbl.size
  cases hp : Lib.hasPrefix l [41] with
  | true =>
   have hp2 := pre41 41 hp
   obtain ⟨r,rfl⟩ : ∃ r,l = 41 :: r := ⟨_,hp2⟩
   have HF : Hid (listR (s.size + 1) [] s.data.toList = (ts,r,true)) := hid (by
    rw [HL.out]
    obtain ⟨m,rfl⟩ : ∃ m,n = m + 1 := ⟨n - 1,by omega⟩
    exact listR_yes)
   clear hp hp2 HL
   go_wp2_with fail
   refine (pre_yes (s := bx (41 :: r)) (c := 41) (r := r) rfl _).mono ?_
   rintro e w1 ⟨rfl,rfl⟩
   go_wp2_with fail
   go_ret3
   exact ⟨_,_,_,_,HF,rfl,ho,hbl⟩
  | false =>
   obtain ⟨⟨k,c⟩,rest,ok,hR⟩ : ∃ t rest ok,firstR l = (t,rest,ok) := ⟨_,_,_,rfl⟩
   have HV : Hid (ret3 (firstR (bx l).data.toList) = Value.tuple #[.agg #[.int .i64 k,.string c],.string (bx rest),.bool ok]) := hid (by rw [bx_data,hR]; rfl)
   have HN : Hid (listR (s.size + 1) [] s.data.toList = if ok = false ∨ k = 5 ∨ ts.length = 8 then ([],[],false) else listR (n - 1) (ts ++ [(k,c)]) rest) := hid (by
    rw [HL.out]
    obtain ⟨m,rfl⟩ : ∃ m,n = m + 1 := ⟨n - 1,by omega⟩
    rw [listR_no hp,hR]; rfl)
   have HP := hid hp
   have hlr : ok = true -> rest.length < l.length := by
    intro h
    subst h
    exact firstR_len hR
   have HLR := hid hlr
   have hgr := hg.below hbl (Nat.le_refl _)
   clear hp HL hR hlr
   by_cases hcond : ok = false ∨ k = 5 ∨ ts.length = 8
   ·have HF : Hid (listR (s.size + 1) [] s.data.toList = ([],[],false)) := hid (by rw [HN.out,if_pos hcond])
    clear HN
    cases ok with
    | false =>
     clear hcond
     go_wp2_with fail
     refine (pre_no (s := bx l) (c := 41) HP.out _).mono ?_
     rintro e w1 ⟨rfl,rfl⟩
     go_wp2_with fail
     refine (first_any (bx l) _ hgr (by rw [bx_size]; exact hl)).mono ?_
     rintro e w2 ⟨rfl,hb2⟩
     rw [HV.out]
     go_wp2_with fail
     go_ret3
     exact ⟨_,[],[],_,HF,rfl,OwnT.nil _ _,(hbl.trans (hb2.mono (by omega))).alloc (by have := hb2.size; omega) _⟩
    | true =>
     by_cases h5 : k = 5
     ·subst h5
      clear hcond
      go_wp2_with fail
      refine (pre_no (s := bx l) (c := 41) HP.out _).mono ?_
      rintro e w1 ⟨rfl,rfl⟩
      go_wp2_with fail
      refine (first_any (bx l) _ hgr (by rw [bx_size]; exact hl)).mono ?_
      rintro e w2 ⟨rfl,hb2⟩
      rw [HV.out]
      go_wp2_with fail
      go_ret3
      exact ⟨_,[],[],_,HF,rfl,OwnT.nil _ _,(hbl.trans (hb2.mono (by omega))).alloc (by have := hb2.size; omega) _⟩
     ·have h5' : (k == 5) = false := by rw [beq_eq_false_iff_ne]; exact h5
      have h8 : ts.length = 8 := by rcases hcond with h | h | h; (cases h); exact absurd h h5; exact h
      have h8' : ((ts.length : Int) == 8) = true := by rw [beq_iff_eq]; omega
      obtain ⟨pa,pc,hv,_⟩ := ho.rd
      subst hv
      clear hcond h8 h5
      go_wp2_with fail
      refine (pre_no (s := bx l) (c := 41) HP.out _).mono ?_
      rintro e w1 ⟨rfl,rfl⟩
      go_wp2_with fail
      refine (first_any (bx l) _ hgr (by rw [bx_size]; exact hl)).mono ?_
      rintro e w2 ⟨rfl,hb2⟩
      rw [HV.out]
      go_wp2_with fail
      go_ret3
      exact ⟨_,[],[],_,HF,rfl,OwnT.nil _ _,(hbl.trans (hb2.mono (by omega))).alloc (by have := hb2.size; omega) _⟩
   ·have HF : Hid (listR (s.size + 1) [] s.data.toList = listR (n - 1) (ts ++ [(k,c)]) rest) := hid (by rw [HN.out,if_neg hcond])
    have hok : ok = true := by
     cases ok with
     | false => exact absurd (.inl rfl) hcond
     | true => rfl
    subst hok
    have hrl := HLR.out rfl
    have h5 : ¬ k = 5 := fun e => hcond (.inr (.inl e))
    have h8 : ¬ ts.length = 8 := fun e => hcond (.inr (.inr e))
    have h5' : (k == 5) = false := by rw [beq_eq_false_iff_ne]; exact h5
    have h8' : ((ts.length : Int) == 8) = false := by rw [beq_eq_false_iff_ne]; omega
    have h8l : ts.length < 8 := by omega
    obtain ⟨pa,pc,hv,_⟩ := ho.rd
    subst hv
    clear hcond HN HLR h5 h8
    go_wp2_with fail
    refine (pre_no (s := bx l) (c := 41) HP.out _).mono ?_
    rintro e w1 ⟨rfl,rfl⟩
    go_wp2_with fail
    refine (first_any (bx l) _ hgr (by rw [bx_size]; exact hl)).mono ?_
    rintro e w2 ⟨rfl,hb2⟩
    rw [HV.out]
    have hs2 := hb2.size
    have hb3 : Below w.heap.size w ((w2.alloc (.cells #[.int .i64 k,.string c] 25)).alloc (.cells #[.int .i64 k,.string c] 25)) := ((hbl.trans (hb2.mono (by omega))).alloc (by omega) _).alloc (by simp; omega) _
    have ho2 : OwnT ((w2.alloc (.cells #[.int .i64 k,.string c] 25)).alloc (.cells #[.int .i64 k,.string c] 25)) w.heap.size (.slice pa ts.length pc) ts :=
     (ho.below hb2 (Nat.le_refl _)).below (((Below.refl w2.heap.size w2).alloc (Nat.le_refl _) _).alloc (by simp) _) (Nat.le_refl _)
    go_wp2_with (at_builtin; refine wp_appT rfl _ _ rfl w.heap.size _ ts rfl ho2 (k,c) (w2.heap.size + 1) rfl ?d1 ?d2 ?d3 ?d4 ?_)
    case d3 => omega
    case d4 => simp; omega
    intro v' w3 ho3 hg3
    have hb4 : Below w.heap.size w w3 := hb3.grown hg3 (by simp; omega) (fun g hg => (ho2.lt hg).1)
    clear ho2 hb3 hb2 hg3 ho hbl hgr
    go_wp2_with fail
    go_roundw
    case rel => exact ⟨n - 1,ts ++ [(k,c)],rest,rfl,ho3,HF,by omega,by simp; omega,by omega,hb4⟩
    case measure => simp [strLen,bx_size]; omega
theorem parseR_no {s : List UInt8} (h : Lib.hasPrefix s [40] = false) : parseR s = ([],t0,false) := by
 unfold parseR; rw [if_neg (by rw [h]; decide)]
theorem parseR_yes (r : List UInt8) {ps : List Ty} {rest : List UInt8} {ok : Bool} (n : Nat) (hn : r.length < n) (h : listR n [] r = (ps,rest,ok)) : parseR (40 :: r) = if ok && (oneR rest).2 then (ps,(oneR rest).1,true) else ([],t0,false) := by
 unfold parseR
 rw [if_pos (by simp [Lib.hasPrefix])]
 have : listR (40 :: r).length [] ((40 :: r).drop 1) = (ps,rest,ok) := by
  rw [<- h]
  exact listR_fuel _ _ _ _ (by simp) (by simpa using hn)
 rw [this]
theorem parse_any (s : ByteArray) (w : World) (hg : Glob w) (hs : s.size <= 4294967280) :
  Calls Tryz.prog 107 #[.string s] w fun e w' => ∃ v ps t ok,Hid (parseR s.data.toList = (ps,t,ok)) /\ e = .returned (.tuple #[v,tyv t,.bool ok]) /\ OwnT w' w.heap.size v ps /\ Below w.heap.size w w' := by
 cases hp : Lib.hasPrefix s.data.toList [40] with
 | false =>
  have HF := hid (parseR_no hp)
  have HP := hid hp
  clear hp
  go_enter Tryz.func107,Tryz.ntmps107
  go_wp2_with fail
  refine (pre_no (s := s) (c := 40) HP.out _).mono ?_
  rintro e w1 ⟨rfl,rfl⟩
  go_wp2_with fail
  refine bodyPost_ret (v := .tuple #[.slice none 0 0,.agg #[.int .i64 0,.string (bx [])],.bool false]) (by simp [*,results,Tryz.results107,go_sem,bx]) rfl ⟨_,[],t0,false,HF,rfl,OwnT.nil _ _,?_⟩
  repeat (first | exact Below.refl _ _ | assumption | refine Below.setCell (p := ⟨_,_,_⟩) ?_ (by first | (simp; done) | (simp; omega) | omega) _ | refine below_drewN ?_ _ | refine Below.drew ?_ | refine Below.alloc ?_ (by first | (simp; done) | (simp; omega) | omega) _)
 | true =>
  have hp2 := pre41 40 hp
  obtain ⟨r,hr⟩ : ∃ r,s.data.toList = 40 :: r := ⟨_,hp2⟩
  have HP := hid hr
  have hrl : r.length + 1 = s.size := by rw [Lib.size_eq,hr]; simp
  have hrl2 : r.length <= 4294967280 := by omega
  clear hp hp2 hr hrl
  go_enter Tryz.func107,Tryz.ntmps107
  go_wp2_with fail
  refine (pre_yes HP.out _).mono ?_
  rintro e w1 ⟨rfl,rfl⟩
  go_wp2_with fail
  refine (list_any (bx r) _ (hg.alloc _) (by rw [bx_size]; exact hrl2)).mono ?_
  rintro e w2 ⟨v,ps,rest,ok,HL,rfl,ho,hb1⟩
  have HY := hid (parseR_yes r ((bx r).size + 1) (by rw [bx_size]; omega) HL.out)
  have hrs : rest.length <= 4294967280 := by
   cases ok with
   | false =>
    have := (listR_false _ _ _ HL.out).2
    subst this
    simp
   | true =>
    obtain ⟨qs,_,h2,_⟩ := listR_text _ _ _ _ _ HL.out
    have := congrArg List.length h2
    rw [bx_data] at this
    simp at this
    omega
  have hbx := box2 hb1
  obtain ⟨⟨k,c⟩,ok2,hO⟩ : ∃ t ok2,oneR rest = (t,ok2) := ⟨_,_,rfl⟩
  have HV : Hid (Value.tuple #[tyv (oneR (bx rest).data.toList).1,.bool (oneR (bx rest).data.toList).2] = Value.tuple #[.agg #[.int .i64 k,.string c],.bool ok2]) := hid (by rw [bx_data,hO]; rfl)
  rw [hO] at HY
  clear hO HL
  cases ok with
  | false =>
   have HF : Hid (parseR s.data.toList = ([],t0,false)) := hid (by rw [HP.out]; exact HY.out)
   go_wp2_with fail
   refine (one_any (bx rest) _ (hg.below hbx.2.2.2.2.2.2 (Nat.le_refl _)) (by rw [bx_size]; exact hrs)).mono ?_
   rintro e w3 ⟨rfl,hb3⟩
   rw [HV.out]
   obtain ⟨hlt1,hne1,hc0,hc1,hf0,hf1,hb2⟩ := box_next hbx hb3
   have ho3 := ho.below hb3 (Nat.le_refl _)
   clear hb3 hbx ho hb1
   go_wp2_with fail
   refine bodyPost_ret (v := .tuple #[.slice none 0 0,.agg #[.int .i64 0,.string (bx [])],.bool false]) (by simp [*,results,Tryz.results107,go_sem,bx]) rfl ⟨_,[],t0,false,HF,rfl,OwnT.nil _ _,?_⟩
   repeat (first | exact Below.refl _ _ | assumption | refine Below.setCell (p := ⟨_,_,_⟩) ?_ (by first | (simp; done) | (simp; omega) | omega) _ | refine below_drewN ?_ _ | refine Below.drew ?_ | refine Below.alloc ?_ (by first | (simp; done) | (simp; omega) | omega) _)
  | true =>
   cases ok2 with
   | false =>
    have HF : Hid (parseR s.data.toList = ([],t0,false)) := hid (by rw [HP.out]; exact HY.out)
    go_wp2_with fail
    refine (one_any (bx rest) _ (hg.below hbx.2.2.2.2.2.2 (Nat.le_refl _)) (by rw [bx_size]; exact hrs)).mono ?_
    rintro e w3 ⟨rfl,hb3⟩
    rw [HV.out]
    obtain ⟨hlt1,hne1,hc0,hc1,hf0,hf1,hb2⟩ := box_next hbx hb3
    have ho3 := ho.below hb3 (Nat.le_refl _)
    clear hb3 hbx ho hb1
    go_wp2_with fail
    refine bodyPost_ret (v := .tuple #[.slice none 0 0,.agg #[.int .i64 0,.string (bx [])],.bool false]) (by simp [*,results,Tryz.results107,go_sem,bx]) rfl ⟨_,[],t0,false,HF,rfl,OwnT.nil _ _,?_⟩
    repeat (first | exact Below.refl _ _ | assumption | refine Below.setCell (p := ⟨_,_,_⟩) ?_ (by first | (simp; done) | (simp; omega) | omega) _ | refine below_drewN ?_ _ | refine Below.drew ?_ | refine Below.alloc ?_ (by first | (simp; done) | (simp; omega) | omega) _)
   | true =>
    have HF : Hid (parseR s.data.toList = (ps,(k,c),true)) := hid (by rw [HP.out]; exact HY.out)
    go_wp2_with fail
    refine (one_any (bx rest) _ (hg.below hbx.2.2.2.2.2.2 (Nat.le_refl _)) (by rw [bx_size]; exact hrs)).mono ?_
    rintro e w3 ⟨rfl,hb3⟩
    rw [HV.out]
    obtain ⟨hlt1,hne1,hc0,hc1,hf0,hf1,hb2⟩ := box_next hbx hb3
    have ho3 := ho.below hb3 (Nat.le_refl _)
    clear hb3 hbx ho hb1
    go_wp2_with fail
    have ho4 : OwnT w3 w.heap.size v ps := ho3.mono (by simp)
    have ho5 : OwnT w3 (w.heap.size + 1) v ps := ho3.mono (by simp)
    go_region
    all_goals go_wp2_with fail
    all_goals refine bodyPost_ret (v := .tuple #[v,.agg #[.int .i64 k,.string c],.bool true]) ?_ rfl ⟨_,ps,(k,c),true,HF,rfl,?_,?_⟩
    all_goals first | (simp [*,results,Tryz.results107,go_sem]; done) | exact ((((ho5.setCell (by simp) _).setCell (by simp) _).alloc _).drew).mono (by omega) | (repeat (first | exact Below.refl _ _ | assumption | refine Below.setCell (p := ⟨_,_,_⟩) ?_ (by first | (simp; done) | (simp; omega) | omega) _ | refine below_drewN ?_ _ | refine Below.drew ?_ | refine Below.alloc ?_ (by first | (simp; done) | (simp; omega) | omega) _))
end Go.Proofs.YtofnbapnmhibaaaGreat.D
namespace Go.Proofs.YtofnbapnmhibaaaGreat.O
open Go.Proofs.YtofnbapnmhibaaaGreat.D
open Go.RowKit
def usesI (o : Int) : Int :=
 if o = 1 then 1 else if o = 2 then 2 else if o = 4 then 3 else if o = 5 then 3 else if o = 19 then 3 else if o = 20 then 3 else
 if o = 26 then 4 else if o = 27 then 4 else if o = 28 then 4 else if o = 29 then 4 else
 if o = 34 then 5 else if o = 35 then 5 else if o = 36 then 5 else if o = 37 then 5 else
 if o = 25 then 6 else if o = 30 then 6 else if o = 31 then 6 else 0
def endsB (o : Int) : Bool := decide (o = 19 ∨ o = 38 ∨ o = 39 ∨ o = 40 ∨ o = 43)
def jumpsB (o : Int) : Bool := decide (o = 19 ∨ o = 20)
def knownB (o : Int) : Bool := decide (0 < o /\ o < 44)
theorem ret_i64 {a b : Int} (h : a = b) : Ending.returned (.int .i64 a) = .returned (.int .i64 b) := by rw [h]
theorem knownop_any (o : Int) (w : World) :
  Calls Tryz.prog 99 #[.int .i64 o] w fun e w' => e = .returned (.bool (knownB o)) /\ w = w' := by
 go_enter Tryz.func99,Tryz.ntmps99
 go_wp2
 all_goals go_ret
 all_goals refine ⟨ret_bool ?_,rfl⟩
 all_goals (rw [Bool.eq_iff_iff]; simp [knownB]; try omega)
theorem uses_any (o : Int) (w : World) :
  Calls Tryz.prog 96 #[.int .i64 o] w fun e w' => e = .returned (.int .i64 (usesI o)) /\ w = w' := by
 go_enter Tryz.func96,Tryz.ntmps96
 go_wp2
 all_goals go_ret
 all_goals refine ⟨ret_i64 ?_,rfl⟩
 all_goals simp_all [usesI]
theorem ends_any (o : Int) (w : World) :
  Calls Tryz.prog 26 #[.int .i64 o] w fun e w' => e = .returned (.bool (endsB o)) /\ w = w' := by
 go_enter Tryz.func26,Tryz.ntmps26
 go_wp2
 all_goals go_ret
 all_goals refine ⟨ret_bool ?_,rfl⟩
 all_goals (rw [Bool.eq_iff_iff]; simp_all [endsB])
theorem jumps_any (o : Int) (w : World) :
  Calls Tryz.prog 38 #[.int .i64 o] w fun e w' => e = .returned (.bool (jumpsB o)) /\ w = w' := by
 go_enter Tryz.func38,Tryz.ntmps38
 go_wp2
 all_goals go_ret
 all_goals refine ⟨ret_bool ?_,rfl⟩
 all_goals (rw [Bool.eq_iff_iff]; simp_all [jumpsB])
end Go.Proofs.YtofnbapnmhibaaaGreat.O
namespace Go.Proofs.YtofnbapnmhibaaaGreat.O
open Go.Proofs.YtofnbapnmhibaaaGreat.D
open Go.RowKit
theorem str_ext {a b : ByteArray} (h : a.toList = b.toList) : a = b := by
 rw [Lib.toList_data,Lib.toList_data] at h
 obtain ⟨⟨x⟩⟩ := a
 obtain ⟨⟨y⟩⟩ := b
 simp only at h
 rw [h]
abbrev Ins : Type := Int × Int × Int × ByteArray × ByteArray × ByteArray × ByteArray
def insV (x : Ins) : Value := .agg #[.int .i64 x.1,.int .i32 x.2.1,.int .i64 x.2.2.1,.string x.2.2.2.1,.string x.2.2.2.2.1,.string x.2.2.2.2.2.1,.string x.2.2.2.2.2.2]
def usedI (x : Ins) : Ins :=
 (x.1,(if usesI x.1 = 1 then x.2.1 else 0),(if usesI x.1 = 3 then x.2.2.1 else 0),(if usesI x.1 = 2 then x.2.2.2.1 else ⟨#[]⟩),
  (if usesI x.1 = 4 ∨ usesI x.1 = 5 ∨ usesI x.1 = 6 then x.2.2.2.2.1 else ⟨#[]⟩),(if usesI x.1 = 4 ∨ usesI x.1 = 5 then x.2.2.2.2.2.1 else ⟨#[]⟩),(if usesI x.1 = 5 then x.2.2.2.2.2.2 else ⟨#[]⟩))
theorem insV_mk (o n k : Int) (s c m d : ByteArray) : insV (o,n,k,s,c,m,d) = .agg #[.int .i64 o,.int .i32 n,.int .i64 k,.string s,.string c,.string m,.string d] := rfl
theorem used_any (o n k : Int) (s c m d : ByteArray) (w : World) :
  Calls Tryz.prog 100 #[insV (o,n,k,s,c,m,d)] w fun e w' => e = .returned (insV (usedI (o,n,k,s,c,m,d))) /\ Below w.heap.size w w' := by
 rw [insV_mk]
 go_enter Tryz.func100,Tryz.ntmps100
 go_wp2_with (go_at_call 96; refine (uses_any _ _).mono ?_; rintro e w' ⟨rfl,rfl⟩)
 all_goals refine bodyPost_ret (v := insV (usedI (o,n,k,s,c,m,d))) ?_ rfl ⟨rfl,?_⟩
 all_goals simp_all [results,Tryz.results100,go_sem,insV,usedI]
 all_goals exact ((Below.refl _ _).alloc (Nat.le_refl _) _).alloc (by simp) _
end Go.Proofs.YtofnbapnmhibaaaGreat.O
