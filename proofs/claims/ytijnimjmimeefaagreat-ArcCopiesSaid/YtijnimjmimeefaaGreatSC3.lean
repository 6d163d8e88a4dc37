/- Texts that the proof is made of, joined. No condition. -/
import Derived.Test.YtijnimjmimeefaaGreatSC2
import Derived.Test.YtijnimjmimeefaaGreatSC1
import Derived.Deep.LoopGhost
import Derived.Deep.RegionHeld3
import Derived.Outline
import Derived.Test.YtijnimjmimeefaaGreatSCH
set_option linter.unusedVariables false
set_option linter.unusedSimpArgs false
set_option maxRecDepth 100000
set_option maxHeartbeats 16000000
namespace Go.Proofs.YtijnimjmimeefaaGreat.A
open Go.RowKit Go.Proofs.YtijnimjmimeefaaGreat.D Go.Proofs.YtijnimjmimeefaaGreat.O
def okI (x : Ins) : Prop := -2147483648 <= x.2.1 /\ x.2.1 <= 2147483647
def wfM (m : Mth) : Prop := ∀ x ∈ m.code, okI x
def wfC (c : Cls) : Prop := ∀ m ∈ c.methods, wfM m
def wfA (a : Arch) : Prop := ∀ c ∈ a, wfC c
theorem allB_iff {α : Type} {m : Nat} {f : α -> Bool} {l : List α} : allB m f l = true ↔ l.length <= m /\ ∀ x ∈ l, f x = true := by
 unfold allB
 simp
theorem ofT_data (ps : List Ty) (r : Ty) : (ofT ps r).data.toList = ofL ps r := bx_data _
theorem wr_fld {f : Fld} (h : fldB f = true) : Wr (wFld f) pFld f := by
 obtain ⟨n, ⟨k, c⟩, s⟩ := f
 unfold fldB holdsB at h
 simp only [Bool.and_eq_true] at h
 have ht := oneR_of (t := (k, c)) h.2.1
 have hb : Wr (wNums [bitN s 1]) (fun _ => pNum 1) (if s then 1 else 0) := wr_num (by cases s <;> rfl) (by cases s <;> decide) (by decide)
 have h3 := Wr.map (fun s' : Nat => ((n, (oneR (typeT k c).data.toList).1, decide (s' = 1)) : Fld)) hb
 have h2 := Wr.pb (q := fun _ t => A.pb (pNum 1) fun s' => A.pr ((n, (oneR t.data.toList).1, decide (s' = 1)) : Fld)) (wr_text (typeT k c)) h3 (fun _ => rfl)
 have h1 := Wr.pb (q := fun L n => A.pb (pText L) fun t => A.pb (pNum 1) fun s' => A.pr ((n, (oneR t.data.toList).1, decide (s' = 1)) : Fld)) (wr_text n) h2 (F := wFld (n, (k, c), s)) (fun _ => rfl)
 refine h1.congr (fun _ _ => rfl) ?_
 show (n, (k, c), s) = (n, (oneR (typeL (k, c))).1, _)
 rw [ht]
 cases s <;> rfl
theorem upToB_iff {n m : Int} : upToB n m = true ↔ 0 <= n /\ n <= m := by unfold upToB; simp
theorem wr_hnd {h : Hnd} (hb : hndB h = true) : Wr (wHnd h) pHnd h := by
 obtain ⟨f, t, a, c⟩ := h
 unfold hndB at hb
 simp only [Bool.and_eq_true, upToB_iff] at hb
 obtain ⟨⟨⟨⟨f0, f1⟩, t0, t1⟩, a0, a1⟩, _⟩ := hb
 obtain ⟨f', rfl⟩ : ∃ n : Nat, f = n := ⟨f.toNat, by omega⟩
 obtain ⟨t', rfl⟩ : ∃ n : Nat, t = n := ⟨t.toNat, by omega⟩
 obtain ⟨a', rfl⟩ : ∃ n : Nat, a = n := ⟨a.toNat, by omega⟩
 have h4 := Wr.map (fun c : ByteArray => (((f' : Int), (t' : Int), (a' : Int), c) : Hnd)) (wr_text c)
 have h3 := Wr.pb (q := fun L (a : Nat) => A.pb (pText L) fun c => A.pr (((f' : Int), (t' : Int), (a : Int), c) : Hnd)) (wr_num (n := a') (m := 2000) rfl (by omega) (by decide)) h4 (fun _ => rfl)
 have h2 := Wr.pb (q := fun L (t : Nat) => A.pb (pNum 2000) fun a => A.pb (pText L) fun c => A.pr (((f' : Int), (t : Int), (a : Int), c) : Hnd)) (wr_num (n := t') (m := 2000) rfl (by omega) (by decide)) h3 (fun _ => rfl)
 exact Wr.pb (q := fun L (f : Nat) => A.pb (pNum 2000) fun t => A.pb (pNum 2000) fun a => A.pb (pText L) fun c => A.pr (((f : Int), (t : Int), (a : Int), c) : Hnd)) (wr_num (n := f') (m := 2000) rfl (by omega) (by decide)) h2
  (fun st => by show wText c (wNums [(f' : Int), (t' : Int), (a' : Int)] st) = _; rw [wNums_three])
theorem wr_ins {x : Ins} (h : rightI x = true) (hi : okI x) : Wr (wIns x) pIns x := by
 obtain ⟨o, n, k, s, c, m, d⟩ := x
 unfold rightI at h
 simp only [Bool.and_eq_true, decide_eq_true_eq] at h
 obtain ⟨⟨hk, hu⟩, hw⟩ := h
 unfold knownB at hk
 simp only [decide_eq_true_eq] at hk
 obtain ⟨v, rfl⟩ : ∃ v : Nat, o = v := ⟨o.toNat, by omega⟩
 have hfirst : Wr (wNums [(v : Int)]) (fun _ => pNum 43) v := wr_num rfl (by omega) (by decide)
 have hrest : Wr (wUse ((v : Int), n, k, s, c, m, d)) (fun L => pUse L v) ((v : Int), n, k, s, c, m, d) := by
  unfold usedI at hu
  unfold withinB at hw
  simp only [Prod.mk.injEq] at hu
  obtain ⟨-, e1, e2, e3, e4, e5, e6⟩ := hu
  unfold wUse pUse
  by_cases h1 : usesI v = 1
  ·simp only [h1, if_true] at e1 e2 e3 e4 e5 e6 ⊢
   simp at e2 e3 e4 e5 e6
   subst e2 e3 e4 e5 e6
   exact Wr.map (fun n => (((v : Int), n, 0, es, es, es, es) : Ins)) (wr_int hi.1 hi.2)
  by_cases h2 : usesI v = 2
  ·simp only [h2] at e1 e2 e3 e4 e5 e6 ⊢
   simp at e1 e2 e4 e5 e6
   subst e1 e2 e4 e5 e6
   exact Wr.map (fun s => (((v : Int), 0, 0, s, es, es, es) : Ins)) (wr_text s)
  by_cases h3 : usesI v = 3
  ·simp only [h3] at e1 e2 e3 e4 e5 e6 hw ⊢
   simp at e1 e3 e4 e5 e6 hw
   subst e1 e3 e4 e5 e6
   obtain ⟨k', rfl⟩ : ∃ k' : Nat, k = k' := ⟨k.toNat, by omega⟩
   exact Wr.map (fun k : Nat => (((v : Int), 0, (k : Int), es, es, es, es) : Ins)) (wr_num rfl (by omega) (by decide))
  by_cases h4 : usesI v = 4
  ·simp only [h4] at e1 e2 e3 e4 e5 e6 ⊢
   simp at e1 e2 e3 e6
   subst e1 e2 e3 e6
   exact Wr.pb (q := fun L c => A.pb (pText L) fun m => A.pr (((v : Int), 0, 0, es, c, m, es) : Ins)) (wr_text c) (Wr.map (fun m => (((v : Int), 0, 0, es, c, m, es) : Ins)) (wr_text m)) (fun _ => rfl)
  by_cases h5 : usesI v = 5
  ·simp only [h5] at e1 e2 e3 e4 e5 e6 ⊢
   simp at e1 e2 e3
   subst e1 e2 e3
   exact Wr.pb (q := fun L c => A.pb (pText L) fun m => A.pb (pText L) fun d => A.pr (((v : Int), 0, 0, es, c, m, d) : Ins)) (wr_text c)
    (Wr.pb (q := fun L m => A.pb (pText L) fun d => A.pr (((v : Int), 0, 0, es, c, m, d) : Ins)) (wr_text m) (Wr.map (fun d => (((v : Int), 0, 0, es, c, m, d) : Ins)) (wr_text d)) (F := fun st => wText d (wText m st)) (fun _ => rfl)) (fun _ => rfl)
  by_cases h6 : usesI v = 6
  ·simp only [h6] at e1 e2 e3 e4 e5 e6 ⊢
   simp at e1 e2 e3 e5 e6
   subst e1 e2 e3 e5 e6
   exact Wr.map (fun c => (((v : Int), 0, 0, es, c, es, es) : Ins)) (wr_text c)
  ·simp only [h1, h2, h3, h4, h5, h6, if_false, or_self] at e1 e2 e3 e4 e5 e6 ⊢
   subst e1 e2 e3 e4 e5 e6
   exact Wr.pr _
 exact Wr.pb (q := fun L o => pUse L o) hfirst hrest (fun _ => rfl)
theorem bits_back (s a : Bool) : bitN s 1 + bitN a 2 = (((if s then 1 else 0) + (if a then 2 else 0) : Nat) : Int) /\ decide (((if s then 1 else 0) + (if a then 2 else 0) : Nat) % 2 = 1) = s /\ decide (((if s then 1 else 0) + (if a then 2 else 0) : Nat) / 2 = 1) = a := by
 cases s <;> cases a <;> decide
theorem holdsB_iff {t : Ty} : holdsB t = true ↔ rightB t.1 t.2 = true /\ ¬ t.1 = 5 := by unfold holdsB; simp
theorem wr_mth {m : Mth} (h : mthB m = true) (hi : wfM m) : Wr (wMth m) pMth m := by
 obtain ⟨n, ps, r, s, ab, lo, code, hs⟩ := m
 unfold mthB at h
 simp only [Bool.and_eq_true, allB_iff, upToB_iff] at h
 obtain ⟨⟨⟨⟨⟨_, hps⟩, hr⟩, l0, l1⟩, hc⟩, hh⟩ := h
 obtain ⟨lo', rfl⟩ : ∃ n : Nat, lo = n := ⟨lo.toNat, by omega⟩
 have hp := parseR_of (ps := ps) (r := r) (fun q hq => holdsB_iff.1 (hps.2 q hq)) hps.1 hr
 obtain ⟨b1, b2, b3⟩ := bits_back s ab
 obtain ⟨f, hf⟩ : ∃ f : Nat, f = (if s then 1 else 0) + (if ab then 2 else 0) := ⟨_, rfl⟩
 rw [<- hf] at b1 b2 b3
 have hf3 : f <= 3 := by rw [hf]; cases s <;> cases ab <;> decide
 have h6 := Wr.map (fun h => (⟨n, (parseR (ofT ps r).data.toList).1, (parseR (ofT ps r).data.toList).2.1, decide (f % 2 = 1), decide (f / 2 = 1), (lo' : Int), code, h⟩ : Mth)) (wr_list (m := 50) (l := hs) (fun x hx => wr_hnd (hh.2 x hx)) hh.1 (by decide))
 have h5 := Wr.pb (q := fun L c => A.pb (pList 50 (pHnd L)) fun h => A.pr (⟨n, (parseR (ofT ps r).data.toList).1, (parseR (ofT ps r).data.toList).2.1, decide (f % 2 = 1), decide (f / 2 = 1), (lo' : Int), c, h⟩ : Mth)) (wr_list (m := 2000) (l := code) (fun x hx => wr_ins (hc.2 x hx) (hi x hx)) hc.1 (by decide)) h6 (fun _ => rfl)
 have h4 := Wr.pb (q := fun L (lo : Nat) => A.pb (pList 2000 (pIns L)) fun c => A.pb (pList 50 (pHnd L)) fun h => A.pr (⟨n, (parseR (ofT ps r).data.toList).1, (parseR (ofT ps r).data.toList).2.1, decide (f % 2 = 1), decide (f / 2 = 1), (lo : Int), c, h⟩ : Mth)) (wr_num (n := lo') (m := 200) rfl (by omega) (by decide)) h5 (fun _ => rfl)
 have h3 := Wr.pb (q := fun L (f : Nat) => A.pb (pNum 200) fun lo => A.pb (pList 2000 (pIns L)) fun c => A.pb (pList 50 (pHnd L)) fun h => A.pr (⟨n, (parseR (ofT ps r).data.toList).1, (parseR (ofT ps r).data.toList).2.1, decide (f % 2 = 1), decide (f / 2 = 1), (lo : Int), c, h⟩ : Mth)) (wr_num (m := 3) b1 hf3 (by decide)) h4 (fun _ => rfl)
 have h2 := Wr.pb (q := fun L d => A.pb (pNum 3) fun f => A.pb (pNum 200) fun lo => A.pb (pList 2000 (pIns L)) fun c => A.pb (pList 50 (pHnd L)) fun h => A.pr (⟨n, (parseR d.data.toList).1, (parseR d.data.toList).2.1, decide (f % 2 = 1), decide (f / 2 = 1), (lo : Int), c, h⟩ : Mth)) (wr_text (ofT ps r)) h3 (fun _ => rfl)
 have h1 := Wr.pb (q := fun L n => A.pb (pText L) fun d => A.pb (pNum 3) fun f => A.pb (pNum 200) fun lo => A.pb (pList 2000 (pIns L)) fun c => A.pb (pList 50 (pHnd L)) fun h => A.pr (⟨n, (parseR d.data.toList).1, (parseR d.data.toList).2.1, decide (f % 2 = 1), decide (f / 2 = 1), (lo : Int), c, h⟩ : Mth)) (wr_text n) h2
  (F := wMth ⟨n, ps, r, s, ab, lo', code, hs⟩) (fun st => by unfold wMth; simp only [wNums_two])
 refine h1.congr (fun _ _ => rfl) ?_
 rw [ofT_data, hp, b2, b3]
theorem wr_cls {c : Cls} (h : clsB c = true) (hi : wfC c) : Wr (wCls c) pCls c := by
 obtain ⟨n, s, is, k, fs, ms⟩ := c
 unfold clsB at h
 simp only [Bool.and_eq_true, allB_iff, decide_eq_true_eq] at h
 obtain ⟨⟨⟨⟨_, hi'⟩, hk⟩, hf⟩, hm⟩ := h
 obtain ⟨k', rfl⟩ : ∃ n : Nat, k = n := ⟨k.toNat, by omega⟩
 have h6 := Wr.map (fun m => (⟨n, s, is, (k' : Int), fs, m⟩ : Cls)) (wr_list (m := 100) (l := ms) (fun x hx => wr_mth (hm.2 x hx) (hi x hx)) hm.1 (by decide))
 have h5 := Wr.pb (q := fun L f => A.pb (pList 100 (pMth L)) fun m => A.pr (⟨n, s, is, (k' : Int), f, m⟩ : Cls)) (wr_list (m := 100) (l := fs) (fun x hx => wr_fld (hf.2 x hx)) hf.1 (by decide)) h6 (fun _ => rfl)
 have h4 := Wr.pb (q := fun L (k : Nat) => A.pb (pList 100 (pFld L)) fun f => A.pb (pList 100 (pMth L)) fun m => A.pr (⟨n, s, is, (k : Int), f, m⟩ : Cls)) (wr_num (n := k') (m := 4) rfl (by omega) (by decide)) h5 (fun _ => rfl)
 have h3 := Wr.pb (q := fun L i => A.pb (pNum 4) fun k => A.pb (pList 100 (pFld L)) fun f => A.pb (pList 100 (pMth L)) fun m => A.pr (⟨n, s, i, (k : Int), f, m⟩ : Cls)) (wr_list (p := pText) (m := 20) (l := is) (fun x _ => wr_text x) hi'.1 (by decide)) h4 (fun _ => rfl)
 have h2 := Wr.pb (q := fun L s => A.pb (pList 20 (pText L)) fun i => A.pb (pNum 4) fun k => A.pb (pList 100 (pFld L)) fun f => A.pb (pList 100 (pMth L)) fun m => A.pr (⟨n, s, i, (k : Int), f, m⟩ : Cls)) (wr_text s) h3 (fun _ => rfl)
 exact Wr.pb (q := fun L n => A.pb (pText L) fun s => A.pb (pList 20 (pText L)) fun i => A.pb (pNum 4) fun k => A.pb (pList 100 (pFld L)) fun f => A.pb (pList 100 (pMth L)) fun m => A.pr (⟨n, s, i, (k : Int), f, m⟩ : Cls)) (wr_text n) h2 (fun _ => rfl)
theorem wr_arc {a : Arch} (h : formedB a = true) (hi : wfA a) : Wr (wList wCls a) pArc a := by
 unfold formedB at h
 rw [allB_iff] at h
 exact wr_list (fun x hx => wr_cls (h.2 x hx) (hi x hx)) h.1 (by decide)
theorem written_arc {a : Arch} (h : formedB a = true) (hi : wfA a) (N : List ByteArray) (r : List UInt8) (hN : ((written a).1 ++ N).length <= 65536) : pArc ((written a).1 ++ N) ((written a).2 ++ r) = .ok (a, r) := by
 obtain ⟨M, bs, e, hr⟩ := wr_arc h hi ([], [])
 have e1 : written a = (M, bs) := by unfold written; rw [e]; simp
 rw [e1] at hN ⊢
 have := hr N r (by simpa using hN)
 simpa using this
theorem pStr_back {m : Nat} {s : ByteArray} (h : s.size <= m) (hm : m <= 9223372036854775807) (r : List UInt8) : pStr m (tb s ++ r) = .ok (s, r) := by
 have hn := dec_nb m (sb s ++ r) (s.size + 1) s.size 0 0 (by omega) (.inl rfl) (by have := nb_len9 (u := s.size) (by omega); omega)
 simp only [Nat.mul_zero, Nat.pow_zero, Nat.mul_one, Nat.zero_add] at hn
 rw [if_neg (by omega)] at hn
 unfold pStr A.pb pNum tb
 rw [List.append_assoc, hn]
 dsimp only
 rw [if_pos rfl]
 dsimp only
 rw [List.drop_left, if_neg (by rw [List.length_append, sb_len]; omega), <- sb_len, List.take_left, List.drop_left, tx_sb]
theorem pTexts_back (r : List UInt8) : ∀ L : List ByteArray, (∀ s ∈ L, s.size <= 1000) -> pMany (pStr 1000) L.length (tbs L ++ r) = .ok (L, r)
 | [], _ => rfl
 | s :: L, h => by
  have ih := pTexts_back r L (fun x hx => h x (by simp [hx]))
  rw [tbs_cons, List.append_assoc]
  show A.pb (pStr 1000) (fun x => A.pb (pMany (pStr 1000) L.length) fun xs => A.pr (x :: xs)) _ = _
  unfold A.pb
  rw [pStr_back (h s (by simp)) (by decide)]
  dsimp only
  rw [ih]
  rfl
theorem pPool_back {L : List ByteArray} (hl : L.length <= 10000) (h : ∀ s ∈ L, s.size <= 1000) (r : List UInt8) : pPool (poolB L ++ r) = .ok (L, r) := by
 have hn := dec_nb 10000 (tbs L ++ r) (L.length + 1) L.length 0 0 (by omega) (.inl rfl) (by have := nb_len9 (u := L.length) (by omega); omega)
 simp only [Nat.mul_zero, Nat.pow_zero, Nat.mul_one, Nat.zero_add] at hn
 rw [if_neg (by omega)] at hn
 unfold pPool pList A.pb pNum poolB
 rw [List.append_assoc, hn]
 dsimp only
 rw [if_pos rfl]
 dsimp only
 rw [List.drop_left]
 exact pTexts_back r L h
end Go.Proofs.YtijnimjmimeefaaGreat.A
namespace Go.Proofs.YtijnimjmimeefaaGreat.A
open Go.RowKit Go.Proofs.YtijnimjmimeefaaGreat.D Go.Proofs.YtijnimjmimeefaaGreat.O
theorem name_size {s : ByteArray} (h : nameB s = true) : s.size <= 64 := by
 unfold nameB nameL at h
 rw [Lib.size_eq]
 simp only [Bool.and_eq_true, decide_eq_true_eq] at h
 omega
theorem typeT_size {k : Int} {c : ByteArray} (h : rightB k c = true) : (typeT k c).size <= 66 := by
 unfold rightB at h
 unfold typeT
 repeat' split
 all_goals first | (simp; done) | skip
 all_goals first | (have : (⟨#[73]⟩ : ByteArray).size = 1 := rfl; decide) | skip
 ·rename_i h4
  rw [if_pos h4] at h
  have := name_size h
  rw [ByteArray.size_append, ByteArray.size_append]
  have e1 : (⟨#[76]⟩ : ByteArray).size = 1 := rfl
  have e2 : (⟨#[59]⟩ : ByteArray).size = 1 := rfl
  omega
theorem typeL_len66 {t : Ty} (h : rightB t.1 t.2 = true) : (typeL t).length <= 66 := by
 have := typeT_size h
 rw [Lib.size_eq] at this
 exact this
theorem ofL_len {ps : List Ty} {r : Ty} (hps : ∀ q ∈ ps, rightB q.1 q.2 = true) (hl : ps.length <= 8) (hr : rightB r.1 r.2 = true) : (ofL ps r).length <= 596 := by
 have h1 : ∀ l : List Ty, (∀ q ∈ l, rightB q.1 q.2 = true) -> (l.flatMap typeL).length <= l.length * 66 := by
  intro l
  induction l with
  | nil => intro _; simp
  | cons t l ih =>
   intro h
   have := ih (fun q hq => h q (by simp [hq]))
   have h2 := typeL_len66 (h t (by simp))
   rw [List.flatMap_cons, List.length_append, List.length_cons, Nat.succ_mul]
   omega
 have := h1 ps hps
 have h2 := typeL_len66 hr
 unfold ofL
 rw [List.length_cons, List.length_append, List.length_cons]
 omega
theorem parses_size {d : ByteArray} (h : parsesB d = true) : d.size <= 596 := by
 unfold parsesB at h
 rcases hp : parseR d.data.toList with ⟨ps, r, ok⟩
 rw [hp] at h
 simp only at h
 subst h
 obtain ⟨h1, h2, h3, h4⟩ := parseR_text hp
 rw [Lib.size_eq, <- h1]
 exact ofL_len (fun q hq => (h2 q hq).1) h3 h4
theorem ofT_size {ps : List Ty} {r : Ty} (hps : ∀ q ∈ ps, holdsB q = true) (hl : ps.length <= 8) (hr : rightB r.1 r.2 = true) : (ofT ps r).size <= 596 := by
 rw [Lib.size_eq, ofT_data]
 exact ofL_len (fun q hq => (holdsB_iff.1 (hps q hq)).1) hl hr
def Ext (f : WS -> WS) (n : Nat) : Prop := ∀ st : WS, ∃ M bs, f st = (st.1 ++ M, st.2 ++ bs) /\ M.length <= n /\ bs.length <= 30 * n /\ ∀ s ∈ M, s.size <= 1000
theorem Ext.id : Ext (fun st => st) 0 := fun st => ⟨[], [], by simp, by simp, by simp, by simp⟩
theorem Ext.comp {f g F : WS -> WS} {a b n : Nat} (h1 : Ext f a) (h2 : Ext g b) (hF : ∀ st, F st = g (f st)) (hn : a + b <= n) : Ext F n := by
 intro st
 obtain ⟨M1, b1, e1, l1, m1, s1⟩ := h1 st
 obtain ⟨M2, b2, e2, l2, m2, s2⟩ := h2 (f st)
 refine ⟨M1 ++ M2, b1 ++ b2, by rw [hF, e2, e1]; simp, by rw [List.length_append]; omega, by rw [List.length_append]; omega, fun s hs => ?_⟩
 rcases List.mem_append.1 hs with h | h
 ·exact s1 s h
 ·exact s2 s h
theorem Ext.mono {f : WS -> WS} {a n : Nat} (h : Ext f a) (hn : a <= n) : Ext f n := Ext.comp h Ext.id (fun _ => rfl) hn
theorem ext_text {s : ByteArray} (h : s.size <= 1000) : Ext (wText s) 1 := by
 intro st
 refine ⟨if s ∈ st.1 then [] else [s], two (pos st.1 s : Int), by simp only [wText, putL_eq], by split <;> simp, by simp [two], fun x hx => ?_⟩
 split at hx
 ·simp at hx
 ·rw [List.mem_singleton.1 hx]; exact h
theorem ext_nums {zs : List Int} {n : Nat} (h : ∀ z ∈ zs, z <= 9223372036854775807) (hl : zs.length <= 3 * n) : Ext (wNums zs) n := by
 have hb : (nums zs).length <= 10 * zs.length := by
  clear hl
  induction zs with
  | nil => simp [nums]
  | cons z l ih =>
   have := ih (fun y hy => h y (by simp [hy]))
   have h1 := nb_len10 (v := cnt z) (toNat_u64 (h z (by simp))).out
   show (nb (cnt z) ++ nums l).length <= _
   rw [List.length_append, List.length_cons]
   omega
 intro st
 exact ⟨[], nums zs, by simp [wNums], by simp, by omega, by simp⟩
theorem ext_int {z : Int} (h1 : -2147483648 <= z) (h2 : z <= 2147483647) : Ext (wInt z) 1 := by
 have := nb_len10 (v := foldN z) (Nat.lt_of_le_of_lt (fold_back h1 h2).1 (by decide))
 intro st
 exact ⟨[], nb (foldN z), by simp [wInt], by simp, by omega, by simp⟩
theorem ext_all {α : Type} {f : α -> WS -> WS} {c : α -> Nat} : ∀ l : List α, (∀ x ∈ l, Ext (f x) (c x)) -> Ext (wAll f l) ((l.map c).sum)
 | [], _ => Ext.id
 | x :: l, h => Ext.comp (h x (by simp)) (ext_all l (fun y hy => h y (by simp [hy]))) (fun _ => rfl) (by simp)
theorem ext_list {α : Type} {f : α -> WS -> WS} {c : α -> Nat} {l : List α} (h : ∀ x ∈ l, Ext (f x) (c x)) (hl : l.length <= 1000000) : Ext (wList f l) (1 + (l.map c).sum) :=
 Ext.comp (ext_nums (n := 1) (zs := [(l.length : Int)]) (by simp; omega) (by simp)) (ext_all l h) (fun _ => rfl) (Nat.le_refl _)
theorem ext_fld {f : Fld} (h : fldB f = true) : Ext (wFld f) 3 := by
 unfold fldB holdsB at h
 simp only [Bool.and_eq_true] at h
 have h1 := name_size h.1
 have h2 := typeT_size h.2.1
 refine Ext.comp (Ext.comp (ext_text (s := f.1) (by omega)) (ext_text (s := typeT f.2.1.1 f.2.1.2) (by omega)) (fun _ => rfl) (Nat.le_refl _)) (ext_nums (n := 1) (zs := [bitN f.2.2 1]) ?_ (by simp)) (fun _ => rfl) (Nat.le_refl _)
 intro z hz
 rw [List.mem_singleton.1 hz]
 unfold bitN
 split <;> decide
theorem ext_hnd {h : Hnd} (hb : hndB h = true) : Ext (wHnd h) 2 := by
 unfold hndB at hb
 simp only [Bool.and_eq_true, upToB_iff] at hb
 obtain ⟨⟨⟨⟨f0, f1⟩, t0, t1⟩, a0, a1⟩, hn⟩ := hb
 have := name_size hn
 refine Ext.comp (ext_nums (n := 1) (zs := [h.1, h.2.1, h.2.2.1]) ?_ (by simp)) (ext_text (s := h.2.2.2) (by omega)) (fun _ => rfl) (Nat.le_refl _)
 intro z hz
 simp only [List.mem_cons, List.not_mem_nil, or_false] at hz
 rcases hz with rfl | rfl | rfl <;> omega
theorem right_sizes {x : Ins} (h : rightI x = true) : x.2.2.2.1.size <= 1000 /\ x.2.2.2.2.1.size <= 64 /\ x.2.2.2.2.2.1.size <= 64 /\ x.2.2.2.2.2.2.size <= 596 /\ 0 < x.1 /\ x.1 < 44 /\ 0 <= x.2.2.1 /\ x.2.2.1 <= 2000 := by
 obtain ⟨o, n, k, s, c, m, d⟩ := x
 unfold rightI at h
 simp only [Bool.and_eq_true, decide_eq_true_eq] at h
 obtain ⟨⟨hk, hu⟩, hw⟩ := h
 unfold knownB at hk
 simp only [decide_eq_true_eq] at hk
 have e0 : (⟨#[]⟩ : ByteArray).size = 0 := rfl
 unfold usedI at hu
 unfold withinB at hw
 simp only [Prod.mk.injEq] at hu
 obtain ⟨-, e1, e2, e3, e4, e5, e6⟩ := hu
 simp only at hw ⊢
 by_cases h2 : usesI o = 2
 ·simp [h2] at e2 e4 e5 e6 hw
  subst e2 e4 e5 e6
  simp only [e0]
  omega
 by_cases h3 : usesI o = 3
 ·simp [h3] at e3 e4 e5 e6 hw
  subst e3 e4 e5 e6
  simp only [e0]
  omega
 by_cases h4 : usesI o = 4
 ·simp [h4] at e2 e3 e6 hw
  subst e2 e3 e6
  have g1 := name_size hw.1
  have g2 := name_size hw.2
  simp only [e0]
  omega
 by_cases h5 : usesI o = 5
 ·simp [h5] at e2 e3 hw
  subst e2 e3
  have g1 := name_size hw.1.1
  have g2 := name_size hw.1.2
  have g3 := parses_size hw.2
  simp only [e0]
  omega
 by_cases h6 : usesI o = 6
 ·simp [h6] at e2 e3 e5 e6 hw
  subst e2 e3 e5 e6
  have g1 := name_size hw
  simp only [e0]
  omega
 ·simp [h2, h3, h4, h5, h6] at e2 e3 e4 e5 e6
  subst e2 e3 e4 e5 e6
  simp only [e0]
  omega
theorem ext_ins {x : Ins} (h : rightI x = true) (hi : okI x) : Ext (wIns x) 4 := by
 obtain ⟨s1, s2, s3, s4, o1, o2, k1, k2⟩ := right_sizes h
 refine Ext.comp (a := 1) (b := 3) (ext_nums (n := 1) (zs := [x.1]) (by simp; omega) (by simp)) ?_ (F := wIns x) (g := wUse x) (fun _ => rfl) (Nat.le_refl _)
 by_cases h1 : usesI x.1 = 1
 ·rw [show wUse x = wInt x.2.1 from funext fun st => by unfold wUse; rw [if_pos h1]]
  exact (ext_int hi.1 hi.2).mono (by decide)
 by_cases h2 : usesI x.1 = 2
 ·rw [show wUse x = wText x.2.2.2.1 from funext fun st => by unfold wUse; simp [h2]]
  exact (ext_text (by omega)).mono (by decide)
 by_cases h3 : usesI x.1 = 3
 ·rw [show wUse x = wNums [x.2.2.1] from funext fun st => by unfold wUse; simp [h3]]
  exact (ext_nums (n := 1) (by simp; omega) (by simp)).mono (by decide)
 by_cases h4 : usesI x.1 = 4
 ·refine Ext.comp (ext_text (s := x.2.2.2.2.1) (by omega)) (ext_text (s := x.2.2.2.2.2.1) (by omega)) (fun st => by unfold wUse; simp [h4]) (by decide)
 by_cases h5 : usesI x.1 = 5
 ·refine Ext.comp (a := 2) (Ext.comp (ext_text (s := x.2.2.2.2.1) (by omega)) (ext_text (s := x.2.2.2.2.2.1) (by omega)) (fun _ => rfl) (by decide)) (ext_text (s := x.2.2.2.2.2.2) (by omega)) (fun st => by unfold wUse; simp [h5]) (by decide)
 by_cases h6 : usesI x.1 = 6
 ·rw [show wUse x = wText x.2.2.2.2.1 from funext fun st => by unfold wUse; simp [h6]]
  exact (ext_text (by omega)).mono (by decide)
 ·rw [show wUse x = fun st => st from funext fun st => by unfold wUse; simp [h1, h2, h3, h4, h5, h6]]
  exact Ext.id.mono (by decide)
def costM (m : Mth) : Nat := 5 + m.code.length * 4 + m.hs.length * 2
def costC (c : Cls) : Nat := 6 + c.ifaces.length + c.fields.length * 3 + (c.methods.map costM).sum
def costA (a : Arch) : Nat := 1 + (a.map costC).sum
theorem sum_const {α : Type} (n : Nat) : ∀ l : List α, (l.map (fun _ => n)).sum = l.length * n
 | [] => by simp
 | x :: l => by rw [List.map_cons, List.sum_cons, sum_const n l, List.length_cons, Nat.succ_mul]; omega
theorem ext_mth {m : Mth} (h : mthB m = true) (hi : wfM m) : Ext (wMth m) (costM m) := by
 unfold mthB at h
 simp only [Bool.and_eq_true, allB_iff, upToB_iff] at h
 obtain ⟨⟨⟨⟨⟨hn, hps⟩, hr⟩, l0, l1⟩, hc⟩, hh⟩ := h
 have g1 := name_size hn
 have g2 := ofT_size hps.2 hps.1 hr
 have e1 := ext_list (f := wIns) (c := fun _ => 4) (l := m.code) (fun x hx => ext_ins (hc.2 x hx) (hi x hx)) (by omega)
 have e2 := ext_list (f := wHnd) (c := fun _ => 2) (l := m.hs) (fun x hx => ext_hnd (hh.2 x hx)) (by omega)
 rw [sum_const] at e1 e2
 have e0 : Ext (fun st => wNums [bitN m.st 1 + bitN m.ab 2, m.locals] (wText (ofT m.params m.ret) (wText m.name st))) 3 :=
  Ext.comp (a := 2) (b := 1) (Ext.comp (ext_text (s := m.name) (by omega)) (ext_text (s := ofT m.params m.ret) (by omega)) (fun _ => rfl) (by decide)) (ext_nums (n := 1) (zs := [bitN m.st 1 + bitN m.ab 2, m.locals]) (by
   intro z hz
   simp only [List.mem_cons, List.not_mem_nil, or_false] at hz
   rcases hz with rfl | rfl
   ·unfold bitN; split <;> split <;> decide
   ·omega) (by simp)) (fun _ => rfl) (by decide)
 exact Ext.comp (Ext.comp e0 e1 (fun _ => rfl) (Nat.le_refl _)) e2 (fun _ => rfl) (by unfold costM; omega)
theorem ext_cls {c : Cls} (h : clsB c = true) (hi : wfC c) : Ext (wCls c) (costC c) := by
 unfold clsB at h
 simp only [Bool.and_eq_true, allB_iff, decide_eq_true_eq] at h
 obtain ⟨⟨⟨⟨⟨hn, hs⟩, hi'⟩, hk⟩, hf⟩, hm⟩ := h
 have g1 := name_size hn
 have g2 := name_size hs
 have e1 := ext_list (f := wText) (c := fun _ => 1) (l := c.ifaces) (fun x hx => ext_text (by have := name_size (hi'.2 x hx); omega)) (by omega)
 have e2 := ext_list (f := wFld) (c := fun _ => 3) (l := c.fields) (fun x hx => ext_fld (hf.2 x hx)) (by omega)
 have e3 := ext_list (f := wMth) (c := costM) (l := c.methods) (fun x hx => ext_mth (hm.2 x hx) (hi x hx)) (by omega)
 rw [sum_const] at e1 e2
 exact Ext.comp (Ext.comp (Ext.comp (Ext.comp (Ext.comp (ext_text (s := c.name) (by omega)) (ext_text (s := c.super) (by omega)) (fun _ => rfl) (Nat.le_refl _)) e1 (fun _ => rfl) (Nat.le_refl _))
  (ext_nums (n := 1) (zs := [c.kind]) (by simp; omega) (by simp)) (fun _ => rfl) (Nat.le_refl _)) e2 (fun _ => rfl) (Nat.le_refl _)) e3 (fun _ => rfl) (by unfold costC; omega)
theorem ext_arc {a : Arch} (h : formedB a = true) (hi : wfA a) : Ext (wList wCls a) (costA a) := by
 unfold formedB at h
 rw [allB_iff] at h
 exact ext_list (fun x hx => ext_cls (h.2 x hx) (hi x hx)) (by omega)
theorem written_ext {a : Arch} (h : formedB a = true) (hi : wfA a) : (written a).1.length <= costA a /\ (written a).2.length <= 30 * costA a /\ ∀ s ∈ (written a).1, s.size <= 1000 := by
 obtain ⟨M, bs, e, l1, l2, hs⟩ := ext_arc h hi ([], [])
 unfold written
 rw [e]
 simpa using ⟨l1, l2, hs⟩
theorem read_put {a : Arch} (h : rightA a = true) (hi : wfA a) : readA (putA a) = .ok a := by
 have hr := h
 unfold rightA at h
 simp only [Bool.and_eq_true, decide_eq_true_eq] at h
 have hp := pPool_back h.2 (written_ext h.1 hi).2.2 (written a).2
 have ha := written_arc h.1 hi [] [] (by rw [List.append_nil]; omega)
 rw [List.append_nil, List.append_nil] at ha
 have e : putA a = bon ++ (poolB (written a).1 ++ (written a).2) := by unfold putA; rw [if_pos hr, List.append_assoc]
 have hpre : bon.isPrefixOf (bon ++ (poolB (written a).1 ++ (written a).2)) = true := by rw [List.isPrefixOf_iff_prefix]; exact List.prefix_append _ _
 have hdrop : (bon ++ (poolB (written a).1 ++ (written a).2)).drop 4 = poolB (written a).1 ++ (written a).2 := rfl
 unfold readA
 rw [e, if_pos hpre, hdrop, hp]
 dsimp only
 rw [ha]
 dsimp only
 rw [if_pos ⟨rfl, hr⟩]
theorem pNum_of {bs : List UInt8} {k m v k' e' : Nat} (h : numR bs k 0 m = (v, k', e')) : (e' = 0 -> pNum m (bs.drop k) = .ok (v, bs.drop k')) /\ (e' ≠ 0 -> pNum m (bs.drop k) = .error e') := by
 unfold numR lookR at h
 rw [if_pos rfl] at h
 unfold pNum
 by_cases h0 : (dec m (bs.drop k) 0 0).2.2 = 0
 ·rw [if_pos h0] at h
  simp only [Prod.mk.injEq] at h
  obtain ⟨rfl, rfl, rfl⟩ := h
  refine ⟨fun _ => ?_, fun h => absurd rfl h⟩
  rw [if_pos h0, List.drop_drop]
 ·rw [if_neg h0] at h
  simp only [Prod.mk.injEq] at h
  obtain ⟨rfl, rfl, rfl⟩ := h
  exact ⟨fun h => absurd h h0, fun _ => by rw [if_neg h0]⟩
theorem pText_of {bs : List UInt8} {k m n k' e' : Nat} {L : List ByteArray} (h : rtwoR bs k 0 m = (n, k', e')) (hm : L.length <= m + 1) :
  (e' = 0 -> if n < L.length then pText L (bs.drop k) = .ok (L.getD n ⟨#[]⟩, bs.drop k') else pText L (bs.drop k) = .error 22) /\ (e' ≠ 0 -> pText L (bs.drop k) = .error e') := by
 unfold rtwoR lookTwoR at h
 rw [if_pos rfl] at h
 match hd : bs.drop k with
 | [] =>
  rw [hd] at h
  simp at h
  obtain ⟨_, _, rfl⟩ := h
  exact ⟨by simp, fun _ => rfl⟩
 | [x] =>
  rw [hd] at h
  simp at h
  obtain ⟨_, _, rfl⟩ := h
  exact ⟨by simp, fun _ => rfl⟩
 | a :: b :: l =>
  rw [hd] at h
  have ha : a.toNat < 256 := a.toNat_lt
  have hb : b.toNat < 256 := b.toNat_lt
  have hk : bs.drop (k + 2) = l := by rw [<- List.drop_drop, hd]; rfl
  unfold pText
  dsimp only at h ⊢
  by_cases hlt : m < a.toNat + b.toNat * 256
  ·simp only [hlt, if_true] at h
   simp at h
   obtain ⟨_, _, rfl⟩ := h
   refine ⟨by simp, fun _ => ?_⟩
   rw [if_pos (by omega)]
  ·simp only [hlt, if_false, if_true] at h
   simp only [Prod.mk.injEq] at h
   obtain ⟨rfl, rfl, rfl⟩ := h
   refine ⟨fun _ => ?_, by simp⟩
   rw [hk]
   by_cases hn : a.toNat + b.toNat * 256 < L.length
   ·rw [if_pos hn, if_neg (by omega)]
   ·rw [if_neg hn, if_pos (by omega)]
theorem pStr_of {bs l : List UInt8} {k m k' e' : Nat} (h : textR bs k 0 m = (l, k', e')) : (e' = 0 -> pStr m (bs.drop k) = .ok (tx l, bs.drop k')) /\ (e' ≠ 0 -> pStr m (bs.drop k) = .error e') := by
 rcases hN : numR bs k 0 m with ⟨v, k1, e1⟩
 obtain ⟨n1, n2⟩ := pNum_of hN
 rw [textR_num hN] at h
 unfold pStr A.pb
 by_cases h0 : e1 = 0
 ·rw [if_pos h0] at h
  rw [n1 h0]
  dsimp only
  rw [List.length_drop]
  by_cases h1 : bs.length - k1 < v
  ·rw [if_pos h1] at h ⊢
   simp only [Prod.mk.injEq] at h
   obtain ⟨_, _, rfl⟩ := h
   exact ⟨by simp, fun _ => rfl⟩
  ·rw [if_neg h1] at h ⊢
   simp only [Prod.mk.injEq] at h
   obtain ⟨rfl, rfl, rfl⟩ := h
   exact ⟨fun _ => by rw [List.drop_drop], by simp⟩
 ·rw [if_neg h0] at h
  simp only [Prod.mk.injEq] at h
  obtain ⟨_, _, rfl⟩ := h
  rw [n2 h0]
  exact ⟨fun h => absurd h h0, fun _ => rfl⟩
theorem pTexts_of {bs : List UInt8} : ∀ (n k : Nat) {L : List ByteArray} {k' e' : Nat}, textsR bs n k 0 = (L, k', e') ->
  (e' = 0 -> pMany (pStr 1000) n (bs.drop k) = .ok (L, bs.drop k')) /\ (e' ≠ 0 -> pMany (pStr 1000) n (bs.drop k) = .error e')
 | 0, k, L, k', e', h => by
  simp only [textsR, Prod.mk.injEq] at h
  obtain ⟨rfl, rfl, rfl⟩ := h
  exact ⟨fun _ => rfl, by simp⟩
 | n + 1, k, L, k', e', h => by
  rcases hT : textR bs k 0 1000 with ⟨l, k1, e1⟩
  obtain ⟨n1, n2⟩ := pStr_of hT
  rw [textsR_more hT] at h
  show (_ -> A.pb (pStr 1000) (fun x => A.pb (pMany (pStr 1000) n) fun xs => A.pr (x :: xs)) _ = _) /\ (_ -> A.pb (pStr 1000) (fun x => A.pb (pMany (pStr 1000) n) fun xs => A.pr (x :: xs)) _ = _)
  unfold A.pb
  by_cases h0 : e1 = 0
  ·subst h0
   rw [n1 rfl]
   dsimp only
   rcases hU : textsR bs n k1 0 with ⟨L1, k2, e2⟩
   obtain ⟨m1, m2⟩ := pTexts_of n k1 hU
   rw [hU] at h
   simp only [Prod.mk.injEq] at h
   obtain ⟨rfl, rfl, rfl⟩ := h
   exact ⟨fun h => by rw [m1 h]; rfl, fun h => by rw [m2 h]⟩
  ·rw [textsR_stop h0] at h
   simp only [Prod.mk.injEq] at h
   obtain ⟨rfl, rfl, rfl⟩ := h
   rw [n2 h0]
   exact ⟨fun h => absurd h h0, fun _ => rfl⟩
theorem pPool_of {bs : List UInt8} {k k' e' : Nat} {L : List ByteArray} (h : poolR bs k 0 = (L, k', e')) : (e' = 0 -> pPool (bs.drop k) = .ok (L, bs.drop k')) /\ (e' ≠ 0 -> pPool (bs.drop k) = .error e') := by
 rcases hN : numR bs k 0 10000 with ⟨v, k1, e1⟩
 obtain ⟨n1, n2⟩ := pNum_of hN
 rw [poolR_num hN] at h
 unfold pPool pList A.pb
 by_cases h0 : e1 = 0
 ·subst h0
  rw [n1 rfl]
  exact pTexts_of v k1 h
 ·rw [textsR_stop h0] at h
  simp only [Prod.mk.injEq] at h
  obtain ⟨rfl, rfl, rfl⟩ := h
  rw [n2 h0]
  exact ⟨fun h => absurd h h0, fun _ => rfl⟩
end Go.Proofs.YtijnimjmimeefaaGreat.A
namespace Go.Proofs.YtijnimjmimeefaaGreat.A
open Go.RowKit Go.Proofs.YtijnimjmimeefaaGreat.D Go.Proofs.YtijnimjmimeefaaGreat.O
def iOne (o : Int) : Ins := (o, 0, 0, es, es, es, es)
def iNum (n : Int) : Ins := (1, n, 0, es, es, es, es)
def iStr (s : ByteArray) : Ins := (2, 0, 0, s, es, es, es)
def iAt (o k : Int) : Ins := (o, 0, k, es, es, es, es)
def iOf (o : Int) (c : ByteArray) : Ins := (o, 0, 0, es, c, es, es)
def iPart (o : Int) (c m : ByteArray) : Ins := (o, 0, 0, es, c, m, es)
def iCall (o : Int) (c m d : ByteArray) : Ins := (o, 0, 0, es, c, m, d)
abbrev BS : Type := List Ins × List Hnd
def bAdd (l : List Ins) (st : BS) : BS := (st.1 ++ l, st.2)
def bTry (f : Nat) (c s : ByteArray) (st : BS) : BS :=
 (st.1 ++ [iAt 19 ((st.1.length : Int) + 4)] ++ [iOne 6, iStr s, iOne 41], st.2 ++ [((f : Int), (st.1.length : Int), (st.1.length : Int) + 1, c)])
def bSet (i : Nat) (f : Ins -> Ins) (st : BS) : BS := (st.1.modify i f, st.2)
def selI (n m : Int) (l : List Int) : Int := l.getD (n % m).toNat 0
def selT (n m : Int) (l : List ByteArray) : ByteArray := l.getD (n % m).toNat es
def wordT (n : Int) : ByteArray := selT n 5 [⟨#[97]⟩, ⟨#[98, 99]⟩, ⟨#[]⟩, ⟨#[120, 32, 121]⟩, ⟨#[48]⟩]
def classT (n : Int) : ByteArray := selT n 4 [⟨#[65]⟩, ⟨#[66]⟩, ⟨#[67]⟩, ⟨#[68]⟩]
def snip (k : Nat) (n : Int) (st : BS) : BS :=
 match k with
 | 0 => bAdd [iAt 4 0, iOne 18, iOne 41] st
 | 1 => bAdd [iAt 4 0, iNum (n - 100), iOne 8, iAt 5 0] st
 | 2 => bAdd [iOne 42, iAt 5 0] st
 | 3 => bAdd [iAt 4 1, iStr (wordT n), iOne 16, iAt 5 1] st
 | 4 => bAdd [iAt 4 1, iOne 41] st
 | 5 => bAdd [iAt 4 2, iNum (n % 5 - 1), iAt 4 0, iOne 24] st
 | 6 => bAdd [iAt 4 2, iNum (n % 4), iOne 23, iAt 5 0] st
 | 7 => bTry st.1.length (selT (n / 4) 2 [⟨#[90, 101, 114, 111, 70, 97, 117, 108, 116]⟩, ⟨#[70, 97, 117, 108, 116]⟩]) ⟨#[122, 101, 114, 111]⟩ (bAdd [iAt 4 0, iNum (n % 7 - 3), iOne (selI n 4 [10, 11, 12, 9]), iAt 5 0] st)
 | 8 => bAdd [iAt 4 0, iNum (n % 9), iOne (selI n 2 [14, 15]), iAt 5 0] st
 | 9 => bAdd [iAt 4 0, iOne 13, iAt 5 0] st
 | 10 => bAdd [iAt 4 1, iOne 17, iAt 5 0] st
 | 11 => bTry st.1.length ⟨#[83, 105, 122, 101, 70, 97, 117, 108, 116]⟩ ⟨#[115, 105, 122, 101]⟩ (bAdd [iNum (n % 6 - 1), iOne 21, iAt 5 2] st)
 | 12 => bAdd [iAt 4 2, iOne 22, iAt 5 0] st
 | 13 => bAdd [iAt 4 0, iAt 20 ((st.1.length : Int) + 4), iStr (wordT n), iOne 41] st
 | 14 => bAdd [iAt 19 ((st.1.length : Int) + 2)] (bSet (st.1.length + 3) (fun x => (x.1, x.2.1, (st.1.length : Int) + 11, x.2.2.2)) (bAdd [iAt 4 5, iAt 20 ((st.1.length : Int) + 10), iStr ⟨#[46]⟩, iOne 41, iAt 4 5, iNum 1, iOne 9, iAt 5 5] (bAdd [iNum (n % 4), iAt 5 5] st)))
 | 15 => bAdd [iStr (wordT n), iOne 7, iOne 16, iOne 41] st
 | 16 => bAdd [iOf 25 (classT n), iAt 5 3] st
 | 17 => bAdd [iOf 25 (classT n), iAt 5 3] st
 | 18 => bAdd [iOne 3, iAt 5 3] st
 | 19 => bAdd [iAt 4 3, iCall 34 ⟨#[66, 97, 115, 101]⟩ ⟨#[114, 117, 110]⟩ ⟨#[40, 41, 73]⟩, iAt 5 0] st
 | 20 => bAdd [iAt 4 3, iOf 30 ⟨#[73]⟩, iAt 5 4] st
 | 21 => bTry st.1.length ⟨#[78, 117, 108, 108, 70, 97, 117, 108, 116]⟩ ⟨#[110, 117, 108, 108]⟩ (bAdd [iAt 4 4, iCall 35 ⟨#[73]⟩ ⟨#[114, 117, 110]⟩ ⟨#[40, 41, 73]⟩, iAt 5 0] st)
 | 22 => bAdd [iAt 4 3, iCall 34 ⟨#[66, 97, 115, 101]⟩ ⟨#[110, 97, 109, 101]⟩ ⟨#[40, 41, 83]⟩, iOne 41] st
 | 23 => bAdd [iAt 4 3, iAt 4 0, iPart 27 ⟨#[66, 97, 115, 101]⟩ ⟨#[120]⟩] st
 | 24 => bAdd [iAt 4 3, iPart 26 ⟨#[66, 97, 115, 101]⟩ ⟨#[120]⟩, iAt 5 0] st
 | 25 => bAdd [iAt 4 3, iNum n, iPart 27 ⟨#[66, 97, 115, 101]⟩ ⟨#[119]⟩] st
 | 26 => bAdd [iPart 28 ⟨#[65]⟩ ⟨#[99, 111, 117, 110, 116]⟩, iNum 1, iOne 8, iPart 29 ⟨#[65]⟩ ⟨#[99, 111, 117, 110, 116]⟩] st
 | 27 => bAdd [iAt 4 0, iPart 29 (selT n 2 [⟨#[85, 116, 105, 108]⟩, ⟨#[68]⟩]) ⟨#[119, 97, 115, 116, 101]⟩] st
 | 28 => bAdd [iAt 4 0, iCall 36 ⟨#[85, 116, 105, 108]⟩ (selT n 4 [⟨#[105, 110, 99]⟩, ⟨#[116, 119, 105, 99, 101]⟩, ⟨#[119, 111, 114, 107]⟩, ⟨#[100, 111, 119, 110]⟩]) ⟨#[40, 73, 41, 73]⟩, iAt 5 0] st
 | 29 => bAdd [iAt 4 3, iCall 36 ⟨#[85, 116, 105, 108]⟩ ⟨#[115, 97, 109, 101]⟩ ⟨#[40, 76, 66, 97, 115, 101, 59, 41, 76, 66, 97, 115, 101, 59]⟩, iAt 5 3] st
 | 30 => bTry st.1.length (selT n 4 [⟨#[69, 114, 114]⟩, ⟨#[69, 114, 114, 50]⟩, ⟨#[70, 97, 117, 108, 116]⟩, ⟨#[78, 117, 108, 108, 70, 97, 117, 108, 116]⟩]) ⟨#[101, 114, 114]⟩ (bAdd [iCall 36 ⟨#[85, 116, 105, 108]⟩ ⟨#[102, 97, 105, 108]⟩ ⟨#[40, 41, 86]⟩] st)
 | 31 => bAdd [iAt 4 3, iAt 4 3, iPart 27 ⟨#[66, 97, 115, 101]⟩ ⟨#[110, 101, 120, 116]⟩, iAt 4 3, iPart 26 ⟨#[66, 97, 115, 101]⟩ ⟨#[110, 101, 120, 116]⟩, iAt 5 3] st
 | 32 => bAdd [iAt 4 3, iOf 31 (selT n 6 [⟨#[66]⟩, ⟨#[77, 105, 100]⟩, ⟨#[73]⟩, ⟨#[66, 97, 115, 101]⟩, ⟨#[79, 98, 106, 101, 99, 116]⟩, ⟨#[67]⟩]), iAt 5 0] st
 | 33 => bTry st.1.length (selT (n / 4) 2 [⟨#[67, 97, 115, 116, 70, 97, 117, 108, 116]⟩, ⟨#[70, 97, 117, 108, 116]⟩]) ⟨#[99, 97, 115, 116]⟩ (bAdd [iAt 4 3, iOf 30 (selT n 4 [⟨#[66]⟩, ⟨#[77, 105, 100]⟩, ⟨#[65]⟩, ⟨#[68]⟩]), iAt 5 3] st)
 | 34 => bAdd [iAt 4 3, iAt 4 3, iPart 26 ⟨#[66, 97, 115, 101]⟩ ⟨#[110, 101, 120, 116]⟩, iOne 32, iAt 5 0] st
 | 35 => bTry st.1.length ⟨#[78, 117, 108, 108, 70, 97, 117, 108, 116]⟩ ⟨#[99, 104, 101, 99, 107]⟩ (bAdd [iAt 4 3, iOne 33] st)
 | 36 => bAdd [iOf 25 ⟨#[67]⟩, iOne 7, iNum n, iPart 27 ⟨#[77, 105, 100]⟩ ⟨#[109]⟩, iCall 34 ⟨#[67]⟩ ⟨#[101, 120, 116, 114, 97]⟩ ⟨#[40, 41, 73]⟩, iAt 5 0] st
 | 37 => bSet st.1.length (fun _ => iAt 4 4) (bAdd [iAt 4 3, iCall 36 ⟨#[85, 116, 105, 108]⟩ ⟨#[112, 97, 115, 115]⟩ ⟨#[40, 76, 73, 59, 41, 76, 73, 59]⟩, iAt 5 4] st)
 | 38 => bTry st.1.length (selT n 2 [⟨#[69, 114, 114]⟩, ⟨#[70, 97, 117, 108, 116]⟩]) ⟨#[116, 104, 114, 111, 119, 110]⟩ (bAdd [iOf 25 (selT n 3 [⟨#[69, 114, 114]⟩, ⟨#[69, 114, 114, 50]⟩, ⟨#[66, 111, 117, 110, 100, 115, 70, 97, 117, 108, 116]⟩]), iOne 38] st)
 | _ => bAdd [iCall 36 ⟨#[85, 116, 105, 108]⟩ ⟨#[115, 104, 111, 119]⟩ ⟨#[40, 41, 86]⟩] st
def roundS (a b : Nat) (st : BS) : BS :=
 if a = 255 then bAdd [iNum b, iOne 43] (snip (a % 40) b st) else snip (a % 40) b st
def roundsS : Nat -> List Nat -> BS -> BS
 | m + 1, a :: b :: l, st => roundsS m l (roundS a b st)
 | _, _, st => st
def bodyS (l : List Nat) : BS :=
 bAdd [iOne 40] (roundsS 20 l ([iNum 1, iAt 5 0, iStr ⟨#[115]⟩, iAt 5 1, iNum 3, iOne 21, iAt 5 2, iOf 25 ⟨#[65]⟩, iAt 5 3, iOne 3, iAt 5 4], []))
def tI : Ty := (1, es)
def tS : Ty := (2, es)
def tV : Ty := (5, es)
def tR (s : ByteArray) : Ty := (4, s)
def mthS (name : ByteArray) (ps : List Ty) (r : Ty) (st : Bool) (lo : Int) (code : List Ins) : Mth := ⟨name, ps, r, st, false, lo, code, []⟩
def absS : Mth := ⟨⟨#[114, 117, 110]⟩, [], tI, false, true, 0, [], []⟩
def clinitS (s : ByteArray) : Mth := mthS ⟨#[99, 108, 105, 110, 105, 116]⟩ [] tV true 0 [iStr s, iOne 41, iOne 40]
def runS (c : ByteArray) (n : Nat) : Mth :=
 mthS ⟨#[114, 117, 110]⟩ [] tI false 1 ((if n / 5 % 4 = 1 then [iStr c, iOne 41] else if n / 5 % 4 = 2 then [iAt 4 0, iNum 9, iPart 27 ⟨#[66, 97, 115, 101]⟩ ⟨#[119]⟩, iAt 4 0, iNum n, iPart 27 ⟨#[66, 97, 115, 101]⟩ ⟨#[120]⟩] else []) ++
  [iAt 4 0, iPart 26 ⟨#[66, 97, 115, 101]⟩ ⟨#[120]⟩, iNum ((n % 5 : Nat) : Int), iOne 8, iOne 39])
def utilS (k : Nat) : Cls :=
  ⟨⟨#[85, 116, 105, 108]⟩, ⟨#[79, 98, 106, 101, 99, 116]⟩, [], 1, [(⟨#[119, 97, 115, 116, 101]⟩, tI, true)],
    [mthS ⟨#[105, 110, 99]⟩ [tI] tI true 1 [iAt 4 0, iNum 1, iOne 8, iOne 39],
     mthS ⟨#[116, 119, 105, 99, 101]⟩ [tI] tI true 3 [iAt 4 0, iAt 5 2, iAt 4 2, iAt 4 2, iOne 8, iOne 39],
     mthS ⟨#[119, 111, 114, 107]⟩ [tI] tI true 1 [iAt 4 0, iAt 20 4, iNum 7, iOne 39, iNum 3, iOne 39],
     mthS ⟨#[100, 111, 119, 110]⟩ [tI] tI true 1 [iAt 4 0, iNum 1, iOne 14, iAt 20 6, iNum 0, iOne 39, iAt 4 0, iNum 50, iOne 9, iCall 36 ⟨#[85, 116, 105, 108]⟩ ⟨#[100, 111, 119, 110]⟩ ⟨#[40, 73, 41, 73]⟩, iNum 1, iOne 8, iOne 39],
     mthS ⟨#[115, 97, 109, 101]⟩ [tR ⟨#[66, 97, 115, 101]⟩] (tR ⟨#[66, 97, 115, 101]⟩) true 1 [iAt 4 0, iOne 39],
     mthS ⟨#[112, 97, 115, 115]⟩ [tR ⟨#[73]⟩] (tR ⟨#[73]⟩) true 1 [iAt 4 0, iOne 39],
     mthS ⟨#[102, 97, 105, 108]⟩ [] tV true 0 [iOf 25 ⟨#[69, 114, 114, 50]⟩, iOne 38],
     mthS ⟨#[115, 104, 111, 119]⟩ [] tV true 0 (if k % 2 = 1 then [iNum 5, iStr ⟨#[108, 101, 102, 116]⟩, iOne 41, iOne 40] else [iStr ⟨#[115, 104, 111, 119]⟩, iOne 41, iOne 40]),
     mthS ⟨#[100, 101, 97, 100]⟩ [tI] tI true 1 [iAt 4 0, iCall 36 ⟨#[71, 111, 110, 101]⟩ ⟨#[102]⟩ ⟨#[40, 73, 41, 73]⟩, iOne 39]] ++ (if k / 2 % 2 = 1 then [clinitS ⟨#[117, 116, 105, 108]⟩] else [])⟩
def whenS {α : Type} (b : Bool) (l : List α) : List α := if b then l else []
def bitS (k i : Nat) : Bool := decide (k / 2 ^ i % 2 = 1)
def familyS (k0 k1 k2 k3 : Nat) : List Cls :=
  [⟨⟨#[66, 97, 115, 101]⟩, ⟨#[79, 98, 106, 101, 99, 116]⟩, [⟨#[73]⟩], 2, [(⟨#[120]⟩, tI, false), (⟨#[110, 101, 120, 116]⟩, tR ⟨#[66, 97, 115, 101]⟩, false), (⟨#[119]⟩, tI, false), (⟨#[117, 110, 117, 115, 101, 100]⟩, tS, false)],
      [mthS ⟨#[110, 97, 109, 101]⟩ [] tS false 1 [iStr ⟨#[98, 97, 115, 101]⟩, iOne 39]] ++ whenS (bitS k0 0) [absS] ++ whenS (bitS k0 1) [clinitS ⟨#[98, 97, 115, 101]⟩]⟩,
   ⟨⟨#[65]⟩, ⟨#[66, 97, 115, 101]⟩, [], 1, [(⟨#[99, 111, 117, 110, 116]⟩, tI, true)], [runS ⟨#[65]⟩ k1] ++ whenS (bitS k0 2) [clinitS ⟨#[97]⟩]⟩,
   ⟨⟨#[66]⟩, ⟨#[65]⟩, [], if bitS k0 3 then 3 else 1, [], whenS (bitS k0 4) [runS ⟨#[66]⟩ k2] ++ whenS (bitS k0 5) [mthS ⟨#[110, 97, 109, 101]⟩ [] tS false 1 [iAt 4 0, iCall 37 ⟨#[65]⟩ ⟨#[110, 97, 109, 101]⟩ ⟨#[40, 41, 83]⟩, iStr ⟨#[43, 98]⟩, iOne 16, iOne 39]]⟩,
   ⟨⟨#[77, 105, 100]⟩, ⟨#[66, 97, 115, 101]⟩, whenS (bitS k0 6) [⟨#[74]⟩], 2, [(⟨#[109]⟩, tI, false)], []⟩,
   ⟨⟨#[67]⟩, ⟨#[77, 105, 100]⟩, [], 1, [], [runS ⟨#[67]⟩ k3, mthS ⟨#[101, 120, 116, 114, 97]⟩ [] tI false 1 [iAt 4 0, iPart 26 ⟨#[77, 105, 100]⟩ ⟨#[109]⟩, iOne 39]] ++ whenS (bitS k0 7) [mthS ⟨#[110, 97, 109, 101]⟩ [] tS false 1 [iAt 4 0, iCall 37 ⟨#[77, 105, 100]⟩ ⟨#[110, 97, 109, 101]⟩ ⟨#[40, 41, 83]⟩, iStr ⟨#[43, 99]⟩, iOne 16, iOne 39]]⟩,
   ⟨⟨#[68]⟩, ⟨#[66, 97, 115, 101]⟩, [⟨#[74]⟩], 3, [(⟨#[119, 97, 115, 116, 101]⟩, tI, true), (⟨#[120]⟩, tS, false)], [runS ⟨#[68]⟩ ((k1 + k2) % 256)] ++ whenS (bitS k1 0) [clinitS ⟨#[100]⟩]⟩]
def mainS (k2 : Nat) (l m : List Nat) : Cls :=
 ⟨⟨#[77, 97, 105, 110]⟩, ⟨#[79, 98, 106, 101, 99, 116]⟩, [], 1, [],
  [⟨⟨#[109, 97, 105, 110]⟩, [], tV, true, false, 6, (bodyS l).1, (bodyS l).2⟩, ⟨⟨#[97, 108, 116]⟩, [], tV, true, false, 6, (bodyS m).1, (bodyS m).2⟩] ++ whenS (bitS k2 0) [clinitS ⟨#[109, 97, 105, 110]⟩]⟩
def archS (k0 k1 k2 k3 : Nat) (l m : List Nat) : Arch :=
  (fun a : Arch => if bitS k2 2 then a.reverse else a)
   ([mainS k2 l m, ⟨⟨#[73]⟩, ⟨#[79, 98, 106, 101, 99, 116]⟩, [], 4, [], [absS]⟩, ⟨⟨#[74]⟩, ⟨#[79, 98, 106, 101, 99, 116]⟩, [⟨#[73]⟩], 4, [], whenS (bitS k2 1) [absS]⟩] ++ familyS k0 k1 k2 k3 ++
    [⟨⟨#[69, 114, 114]⟩, ⟨#[70, 97, 117, 108, 116]⟩, [], 1, [], []⟩, ⟨⟨#[69, 114, 114, 50]⟩, ⟨#[69, 114, 114]⟩, [], 1, [], []⟩, ⟨⟨#[71, 111, 110, 101]⟩, ⟨#[65]⟩, [], 1, [], [mthS ⟨#[102]⟩ [tI] tI true 1 [iOf 25 ⟨#[71, 111, 110, 101]⟩, iOne 6, iAt 4 0, iOne 39]]⟩, utilS k3])
def knownS : Arch := archS 1 2 3 4 [0, 1, 4, 2] []
theorem knownS_right : rightA knownS = true := by decide +kernel
end Go.Proofs.YtijnimjmimeefaaGreat.A
namespace Go.Proofs.YtijnimjmimeefaaGreat
open Go.RowKit Go.Maps
def ReadAns (r : Ending) (w' : World) (B : Nat) (L : List ByteArray) (e : Nat) : Prop :=
 if e = 0 then ∃ pb mb sl, r = .returned (.tuple #[.pointer (some ⟨pb, 0, none⟩), .bool true]) /\ Pl w' B pb mb sl L else r = .returned (.tuple #[.pointer none, .bool false])
theorem pread_any (B rb : Nat) (bs : List UInt8) (k e : Nat) (LF : List ByteArray) (kF eF : Nat) (w : World) (hF : poolR bs k e = (LF, kF, eF)) (h : Rdr w B rb bs k e) (he : e < 100) (hl : bs.length <= 30000000) :
  Calls Tryz.prog 51 #[.pointer (some ⟨rb, 0, none⟩)] w fun r w' => ReadAns r w' w.heap.size LF eF /\ Rdr w' B rb bs kF eF /\ Kpt [rb] w w' := by
 have hk := h.2.1
 have hrb := h.lt
 have hBr := h.1
 rcases hN : numR bs k e 10000 with ⟨n, k1, e1⟩
 have hf := numR_le hk he hN
 have hn := hf.1
 have he1 := hf.2.2
 rw [poolR_num hN] at hF
 have HN := hid hN
 have HF := hid hF
 clear hN hF hf
 go_enter Tryz.func51, Tryz.ntmps51
 go_wp2_with fail
 refine (pnew_any _).mono ?_
 rintro r w1 ⟨pb, mb, rfl, hp1, hb1⟩
 have k1' : Kpt [rb] w w1 := .of_below hb1
 have hr1 : Rdr w1 B rb bs k e := h.kpt (.of_below hb1 : Kpt [] w w1) (fun g _ _ => by simp)
 clear hb1
 go_wp2_with fail
 refine (rnum_at HN.out hr1 he (by omega) (by decide) (by decide)).mono ?_
 rintro r w2 ⟨rfl, hg2⟩
 have hr2 := hg2.1
 have kg : Kpt [rb] w1 w2 := .gone hg2 (by simp)
 have k2 : Kpt [rb] w w2 := k1'.trans kg (fun x hx => .inl hx)
 have hp2 : Pl w2 w.heap.size pb mb (.slice none 0 0) [] := hp1.kpt kg (fun x hx => by have := (hp1.lt x hx).1; simp; omega)
 clear hg2 hr1 hp1 kg k1'
 go_wp2
 go_loopg [23] n (fun g _ wr => ∃ (sl : Value) (L : List ByteArray) (k e : Nat), g + L.length = n /\ e < 100 /\ Hid (L ++ (textsR bs g k e).1 = LF /\ (textsR bs g k e).2 = (kF, eF)) /\ Pl wr w.heap.size pb mb sl L /\ Rdr wr B rb bs k e /\ Kpt [rb] w wr)
 case atStart => exact ⟨_, [], k1, e1, by simp, he1, hid ⟨by rw [HF.out]; rfl, by rw [HF.out]⟩, hp2, hr2, k2⟩
 case round =>
  clear hp2 hr2 k2
  obtain ⟨sl, L, k2, e2, hgl, he2, HT, hp, hr, hkp⟩ := hrel
  by_cases hlt : L.length < n
  ·obtain ⟨g', rfl⟩ : ∃ g', gk = g' + 1 := ⟨gk - 1, by omega⟩
   by_cases he0 : e2 = 0
   ·subst he0
    rcases hT : textR bs k2 0 1000 with ⟨l, k3, e3⟩
    have hle := textR_le hr.2.1 (by decide) hT
    have hl3 : (tx l).size <= 100000000 := by rw [tx_size]; omega
    have he3 := hle.2
    have hT2 := textsR_more (n := g') hT
    have HH := hid hT
    have HU := hid hT2
    clear hT hT2 hle
    go_wp2_with fail
    refine (plen_any _ pb mb sl L _ hp).mono ?_
    rintro r w' ⟨rfl, rfl⟩
    go_wp2_with fail
    refine (rerr_any B rb bs k2 0 _ hr).mono ?_
    rintro r w' ⟨rfl, rfl⟩
    go_wp2_with fail
    refine (rtext_at HH.out hr (by decide) (by omega) (by decide) (by decide)).mono ?_
    rintro r w3 ⟨rfl, hg3⟩
    have hr3 := hg3.1
    have kg : Kpt [rb] wr w3 := .gone hg3 (by simp)
    have hp3 : Pl w3 w.heap.size pb mb sl L := hp.kpt kg (fun x hx => by have := (hp.lt x hx).1; simp; omega)
    have hk3 : Kpt [rb] w w3 := hkp.trans kg (fun x hx => .inl hx)
    have hs3 := hk3.size
    clear hg3 hr hp kg hkp
    go_wp2_with fail
    refine (padd_any w.heap.size pb mb sl L (tx l) _ hp3 hs3 (by omega) hl3).mono ?_
    rintro r w4 ⟨sl4, rfl, hp4, hk4, _⟩
    have hr4 : Rdr w4 B rb bs k3 e3 := hr3.kpt hk4 (fun g _ hg hx => by have := (hp3.lt g hx).1; omega)
    have hkk : Kpt [rb] w w4 := hk3.trans hk4 (fun x hx => .inr (hp3.lt x hx).1)
    clear hp3 hk3 hk4 hr3
    have HR : Hid ((L ++ [tx l]) ++ (textsR bs g' k3 e3).1 = LF /\ (textsR bs g' k3 e3).2 = (kF, eF)) := hid (by
     have h1 := HT.out
     rw [HU.out] at h1
     exact ⟨by rw [<- h1.1]; simp, h1.2⟩)
    clear HT HU HH
    go_wp2
    go_roundg g'
    case measure => omega
    case rel => exact ⟨sl4, L ++ [tx l], k3, e3, by rw [List.length_append]; simp; omega, he3, HR, hp4, hr4, hkk⟩
   ·have heb : ((e2 : Int) == 0) = false := beq_eq_false_iff_ne.2 (by omega)
    have hen : ((e2 : Int) != 0) = true := by rw [bne_iff_ne]; omega
    go_wp2_with fail
    refine (plen_any _ pb mb sl L _ hp).mono ?_
    rintro r w' ⟨rfl, rfl⟩
    go_wp2_with fail
    refine (rerr_any B rb bs k2 e2 _ hr).mono ?_
    rintro r w' ⟨rfl, rfl⟩
    go_wp2_with fail
    refine (rerr_any B rb bs k2 e2 _ hr).mono ?_
    rintro r w' ⟨rfl, rfl⟩
    have HR : Hid (kF = k2 /\ eF = e2) := hid (by
     have h1 := HT.out.2
     rw [textsR_stop he0] at h1
     simp only [Prod.mk.injEq] at h1
     exact ⟨h1.1.symm, h1.2.symm⟩)
    go_wp2
    go_ret2
    obtain ⟨rfl, rfl⟩ := HR.out
    exact ⟨by unfold ReadAns; rw [if_neg he0]; rfl, hr, hkp⟩
  ·obtain rfl : gk = 0 := by omega
   have HR : Hid (LF = L /\ kF = k2 /\ eF = e2) := hid (by
    have h1 := HT.out
    simp only [textsR, List.append_nil, Prod.mk.injEq] at h1
    exact ⟨h1.1.symm, h1.2.1.symm, h1.2.2.symm⟩)
   by_cases he0 : e2 = 0
   ·subst he0
    go_wp2_with fail
    refine (plen_any _ pb mb sl L _ hp).mono ?_
    rintro r w' ⟨rfl, rfl⟩
    go_wp2_with fail
    refine (rerr_any B rb bs k2 0 _ hr).mono ?_
    rintro r w' ⟨rfl, rfl⟩
    go_wp2
    go_ret2
    obtain ⟨rfl, rfl, rfl⟩ := HR.out
    exact ⟨by unfold ReadAns; rw [if_pos rfl]; exact ⟨pb, mb, sl, rfl, hp⟩, hr, hkp⟩
   ·have hen : ((e2 : Int) != 0) = true := by rw [bne_iff_ne]; omega
    go_wp2_with fail
    refine (plen_any _ pb mb sl L _ hp).mono ?_
    rintro r w' ⟨rfl, rfl⟩
    go_wp2_with fail
    refine (rerr_any B rb bs k2 e2 _ hr).mono ?_
    rintro r w' ⟨rfl, rfl⟩
    go_wp2
    go_ret2
    obtain ⟨rfl, rfl, rfl⟩ := HR.out
    exact ⟨by unfold ReadAns; rw [if_neg he0]; rfl, hr, hkp⟩
end Go.Proofs.YtijnimjmimeefaaGreat
namespace Go.Proofs.YtijnimjmimeefaaGreat.A
open Go.RowKit Go.Proofs.YtijnimjmimeefaaGreat.D Go.Proofs.YtijnimjmimeefaaGreat.O
def Keeps (ok : Nat -> Prop) (w w' : World) : Prop := ∀ b, ok b -> b < w.heap.size -> w'.heap[b]? = w.heap[b]?
theorem Keeps.of_below {ok : Nat -> Prop} {w w' : World} (h : Below w.heap.size w w') : Keeps ok w w' := fun b _ hb => h.block b hb
theorem Keeps.of_below' {ok : Nat -> Prop} {B : Nat} {w w' : World} (h : Below B w w') (hok : ∀ b, ok b -> b < B) : Keeps ok w w' := fun b hb _ => h.block b (hok b hb)
theorem Keeps.mono {ok ok' : Nat -> Prop} {w w' : World} (h : Keeps ok w w') (ho : ∀ b, ok' b -> ok b) : Keeps ok' w w' := fun b hb hl => h b (ho b hb) hl
theorem Keeps.of_kpt {ok : Nat -> Prop} {S : List Nat} {w w' : World} (h : Kpt S w w') (hS : ∀ b, ok b -> b ∉ S) : Keeps ok w w' := fun b hb hl => h.2 b hl (hS b hb)
theorem Keeps.of_grown {ok : Nat -> Prop} {w w' : World} {r : Option Nat} (h : w.grownBy w' r) (hr : ∀ b, ok b -> r ≠ some b) : Keeps ok w w' := fun b hb hl => h.block b hl (fun e => hr b hb e.symm)
theorem cell_keeps {ok : Nat -> Prop} {w w' : World} {b o : Nat} {u : Value} (h : w.cell? ⟨b, o, none⟩ = some u) (hk : Keeps ok w w') (hb : ok b) : w'.cell? ⟨b, o, none⟩ = some u := by
 have hlt := World.block_lt_of_cell? _ _ h
 rw [World.cell?_of_block (w := w) (a := ⟨b, o, none⟩) (hk b hb hlt)]
 exact h
abbrev Pv (α : Type) : Type := (Nat -> Prop) -> World -> List Value -> α -> Prop
def RdX {α : Type} (sz : Nat) (P : Pv α) (ok : Nat -> Prop) (w : World) (v : Value) (xs : List α) : Prop :=
 ∃ (p : Option Addr) (cap : Nat), v = .slice p xs.length cap /\ xs.length <= cap /\ (p = none -> cap = 0) /\
  (xs = [] ∨ ∃ b off, p = some ⟨b, off, none⟩ /\ ok b /\ b < w.heap.size /\ ∀ i x, xs[i]? = some x -> ∃ vs, P ok w vs x /\ ∀ j u, vs[j]? = some u -> w.cell? ⟨b, off + i * sz + j, none⟩ = some u)
theorem RdX.nil {α : Type} (sz : Nat) (P : Pv α) (ok : Nat -> Prop) (w : World) : RdX sz P ok w (.slice none 0 0) ([] : List α) := ⟨none, 0, rfl, by simp, fun _ => rfl, .inl rfl⟩
theorem RdX.len {α : Type} {sz : Nat} {P : Pv α} {ok : Nat -> Prop} {w : World} {v : Value} {xs : List α} (h : RdX sz P ok w v xs) : ∃ p cap, v = .slice p xs.length cap /\ xs.length <= cap := by
 obtain ⟨p, cap, h, h1, _⟩ := h
 exact ⟨p, cap, h, h1⟩
def sP {α : Type} (c : α -> List Value) : Pv α := fun _ _ vs x => vs = c x
def strC (s : ByteArray) : List Value := [.string s]
def tyC (t : Ty) : List Value := [.int .i64 t.1, .string t.2]
def insC (x : Ins) : List Value := [.int .i64 x.1, .int .i32 x.2.1, .int .i64 x.2.2.1, .string x.2.2.2.1, .string x.2.2.2.2.1, .string x.2.2.2.2.2.1, .string x.2.2.2.2.2.2]
def fldC (f : Fld) : List Value := [.string f.1, .int .i64 f.2.1.1, .string f.2.1.2, .bool f.2.2]
def hndC (h : Hnd) : List Value := [.int .i64 h.1, .int .i64 h.2.1, .int .i64 h.2.2.1, .string h.2.2.2]
def mP : Pv Mth := fun ok w vs m => ∃ vp vc vh, vs = [.string m.name, vp, .int .i64 m.ret.1, .string m.ret.2, .bool m.st, .bool m.ab, .int .i64 m.locals, vc, vh] /\
 RdX 2 (sP tyC) ok w vp m.params /\ RdX 7 (sP insC) ok w vc m.code /\ RdX 4 (sP hndC) ok w vh m.hs
def cP : Pv Cls := fun ok w vs c => ∃ vi vf vm, vs = [.string c.name, .string c.super, vi, .int .i64 c.kind, vf, vm] /\
 RdX 1 (sP strC) ok w vi c.ifaces /\ RdX 4 (sP fldC) ok w vf c.fields /\ RdX 9 mP ok w vm c.methods
def MonoG {α : Type} (P : Pv α) : Prop := ∀ (ok ok' : Nat -> Prop) (w w' : World) (vs : List Value) (x : α), P ok w vs x -> (∀ b, ok b -> b < w.heap.size -> ok' b) -> Keeps ok w w' -> w.heap.size <= w'.heap.size -> P ok' w' vs x
theorem RdX.step {α : Type} {sz : Nat} {P : Pv α} (hP : MonoG P) {ok ok' : Nat -> Prop} {w w' : World} {v : Value} {xs : List α} (h : RdX sz P ok w v xs) (ho : ∀ b, ok b -> b < w.heap.size -> ok' b) (hk : Keeps ok w w') (hs : w.heap.size <= w'.heap.size) : RdX sz P ok' w' v xs := by
 obtain ⟨p, cap, rfl, h1, h2, h3⟩ := h
 refine ⟨p, cap, rfl, h1, h2, ?_⟩
 rcases h3 with h3 | ⟨b, off, rfl, hb, hlt, h3⟩
 ·exact .inl h3
 ·refine .inr ⟨b, off, rfl, ho b hb hlt, by omega, fun i x hx => ?_⟩
  obtain ⟨vs, hv, hc⟩ := h3 i x hx
  exact ⟨vs, hP _ _ _ _ _ _ hv ho hk hs, fun j u hu => cell_keeps (hc j u hu) hk hb⟩
theorem sP.grow {α : Type} (c : α -> List Value) : MonoG (sP c) := fun _ _ _ _ _ _ h _ _ _ => h
theorem mP.grow : MonoG mP := by
 intro ok ok' w w' vs m h ho hk hs
 obtain ⟨vp, vc, vh, e, h1, h2, h3⟩ := h
 exact ⟨vp, vc, vh, e, h1.step (sP.grow _) ho hk hs, h2.step (sP.grow _) ho hk hs, h3.step (sP.grow _) ho hk hs⟩
theorem cP.grow : MonoG cP := by
 intro ok ok' w w' vs c h ho hk hs
 obtain ⟨vi, vf, vm, e, h1, h2, h3⟩ := h
 exact ⟨vi, vf, vm, e, h1.step (sP.grow _) ho hk hs, h2.step (sP.grow _) ho hk hs, h3.step mP.grow ho hk hs⟩
abbrev anyB : Nat -> Prop := fun _ => True
theorem RdX.any {α : Type} {sz : Nat} {P : Pv α} (hP : MonoG P) {ok : Nat -> Prop} {w w' : World} {v : Value} {xs : List α} (h : RdX sz P ok w v xs) (hb : Below w.heap.size w w') : RdX sz P ok w' v xs := h.step hP (fun _ h _ => h) (.of_below hb) hb.size
abbrev RdA (ok : Nat -> Prop) (w : World) (v : Value) (a : Arch) : Prop := RdX 6 cP ok w v a
theorem RdX.at {α : Type} {sz : Nat} {P : Pv α} {ok : Nat -> Prop} {w : World} {p : Option Addr} {n cap : Nat} {xs : List α} (h : RdX sz P ok w (.slice p n cap) xs) (hn : xs ≠ []) :
  ∃ b off, p = some ⟨b, off, none⟩ /\ n = xs.length /\ n <= cap /\ ok b /\ b < w.heap.size /\ ∀ i x, xs[i]? = some x -> ∃ vs, P ok w vs x /\ ∀ j u, vs[j]? = some u -> w.cell? ⟨b, off + i * sz + j, none⟩ = some u := by
 obtain ⟨p', cap', e, h1, h2, h3⟩ := h
 simp only [Value.slice.injEq] at e
 obtain ⟨rfl, rfl, rfl⟩ := e
 rcases h3 with h3 | ⟨b, off, rfl, hb, hlt, h3⟩
 ·exact absurd h3 hn
 ·exact ⟨b, off, rfl, rfl, h1, hb, hlt, h3⟩
def CellsAt (w : World) (b o : Nat) (vs : List Value) : Prop := ∀ j u, vs[j]? = some u -> w.cell? ⟨b, o + j, none⟩ = some u
theorem CellsAt.below {w w' : World} {b o : Nat} {vs : List Value} (h : CellsAt w b o vs) {B : Nat} (hb : Below B w w') (hlt : b < B) : CellsAt w' b o vs := fun j u hu =>
 (hb.cell (p := ⟨b, o + j, none⟩) hlt).trans (h j u hu)
theorem CellsAt.one {w : World} {b o : Nat} {v0 : Value} (h : CellsAt w b o [v0]) : w.cell? ⟨b, o, none⟩ = some v0 := h 0 _ rfl
theorem CellsAt.two {w : World} {b o : Nat} {v0 v1 : Value} (h : CellsAt w b o [v0, v1]) : w.cell? ⟨b, o, none⟩ = some v0 /\ w.cell? ⟨b, o + 1, none⟩ = some v1 := ⟨h 0 _ rfl, h 1 _ rfl⟩
theorem CellsAt.four {w : World} {b o : Nat} {v0 v1 v2 v3 : Value} (h : CellsAt w b o [v0, v1, v2, v3]) : w.cell? ⟨b, o, none⟩ = some v0 /\ w.cell? ⟨b, o + 1, none⟩ = some v1 /\ w.cell? ⟨b, o + 2, none⟩ = some v2 /\ w.cell? ⟨b, o + 3, none⟩ = some v3 :=
 ⟨h 0 _ rfl, h 1 _ rfl, h 2 _ rfl, h 3 _ rfl⟩
theorem CellsAt.six {w : World} {b o : Nat} {v0 v1 v2 v3 v4 v5 : Value} (h : CellsAt w b o [v0, v1, v2, v3, v4, v5]) : w.cell? ⟨b, o, none⟩ = some v0 /\ w.cell? ⟨b, o + 1, none⟩ = some v1 /\ w.cell? ⟨b, o + 2, none⟩ = some v2 /\ w.cell? ⟨b, o + 3, none⟩ = some v3 /\ w.cell? ⟨b, o + 4, none⟩ = some v4 /\ w.cell? ⟨b, o + 5, none⟩ = some v5 :=
 ⟨h 0 _ rfl, h 1 _ rfl, h 2 _ rfl, h 3 _ rfl, h 4 _ rfl, h 5 _ rfl⟩
theorem CellsAt.seven {w : World} {b o : Nat} {v0 v1 v2 v3 v4 v5 v6 : Value} (h : CellsAt w b o [v0, v1, v2, v3, v4, v5, v6]) : w.cell? ⟨b, o, none⟩ = some v0 /\ w.cell? ⟨b, o + 1, none⟩ = some v1 /\ w.cell? ⟨b, o + 2, none⟩ = some v2 /\ w.cell? ⟨b, o + 3, none⟩ = some v3 /\ w.cell? ⟨b, o + 4, none⟩ = some v4 /\ w.cell? ⟨b, o + 5, none⟩ = some v5 /\ w.cell? ⟨b, o + 6, none⟩ = some v6 :=
 ⟨h 0 _ rfl, h 1 _ rfl, h 2 _ rfl, h 3 _ rfl, h 4 _ rfl, h 5 _ rfl, h 6 _ rfl⟩
theorem CellsAt.nine {w : World} {b o : Nat} {v0 v1 v2 v3 v4 v5 v6 v7 v8 : Value} (h : CellsAt w b o [v0, v1, v2, v3, v4, v5, v6, v7, v8]) : w.cell? ⟨b, o, none⟩ = some v0 /\ w.cell? ⟨b, o + 1, none⟩ = some v1 /\ w.cell? ⟨b, o + 2, none⟩ = some v2 /\ w.cell? ⟨b, o + 3, none⟩ = some v3 /\ w.cell? ⟨b, o + 4, none⟩ = some v4 /\ w.cell? ⟨b, o + 5, none⟩ = some v5 /\ w.cell? ⟨b, o + 6, none⟩ = some v6 /\ w.cell? ⟨b, o + 7, none⟩ = some v7 /\ w.cell? ⟨b, o + 8, none⟩ = some v8 :=
 ⟨h 0 _ rfl, h 1 _ rfl, h 2 _ rfl, h 3 _ rfl, h 4 _ rfl, h 5 _ rfl, h 6 _ rfl, h 7 _ rfl, h 8 _ rfl⟩
theorem RdX.place {α : Type} {sz : Nat} {P : Pv α} {ok : Nat -> Prop} {w : World} {p : Option Addr} {n cap : Nat} {xs : List α} (h : RdX sz P ok w (.slice p n cap) xs) (hn : xs ≠ []) :
  ∃ b off, p = some ⟨b, off, none⟩ /\ n = xs.length /\ n <= cap /\ ok b /\ b < w.heap.size /\ ∀ i x, xs[i]? = some x -> ∃ vs, P ok w vs x /\ CellsAt w b (off + i * sz) vs := h.at hn
theorem RdX.tail {α : Type} {sz : Nat} {P : Pv α} {ok : Nat -> Prop} {w : World} {b off cap : Nat} {x : α} {xs : List α} (h : RdX sz P ok w (.slice (some ⟨b, off, none⟩) (x :: xs).length cap) (x :: xs)) :
  RdX sz P ok w (.slice (some ⟨b, off + sz, none⟩) xs.length (cap - 1)) xs := by
 obtain ⟨b', off', e, _, hle, hb, hlt, hc⟩ := h.place (by simp)
 simp only [Option.some.injEq, Addr.mk.injEq, and_true] at e
 obtain ⟨rfl, rfl⟩ := e
 refine ⟨_, _, rfl, by simp at hle; omega, (fun h => by cases h), .inr ⟨b, off + sz, rfl, hb, hlt, fun i y hy => ?_⟩⟩
 obtain ⟨vs, hv, hcells⟩ := hc (i + 1) y (by simpa using hy)
 refine ⟨vs, hv, fun j u hu => ?_⟩
 have := hcells j u hu
 rw [show off + (i + 1) * sz + j = off + sz + i * sz + j by rw [Nat.succ_mul]; omega] at this
 exact this
theorem RdX.empty {α : Type} {sz : Nat} {P : Pv α} {ok : Nat -> Prop} {w : World} {a : Addr} {cap : Nat} : RdX sz P ok w (.slice (some a) 0 cap) ([] : List α) := ⟨_, _, rfl, by simp, (fun h => by cases h), .inl rfl⟩
end Go.Proofs.YtijnimjmimeefaaGreat.A
namespace Go.Proofs.YtijnimjmimeefaaGreat.A
open Go.RowKit Go.Proofs.YtijnimjmimeefaaGreat.D Go.Proofs.YtijnimjmimeefaaGreat.O
theorem allB_len {α : Type} {m : Nat} {f : α -> Bool} {l : List α} (h : ¬ l.length <= m) : allB m f l = false := by unfold allB; simp [h]
theorem allB_no {α : Type} {m : Nat} {f : α -> Bool} {l : List α} {i : Nat} {x : α} (h : l[i]? = some x) (hx : f x = false) : allB m f l = false := by
 unfold allB
 rw [Bool.and_eq_false_iff]
 right
 rw [List.all_eq_false]
 exact ⟨x, List.mem_of_getElem? h, by simp [hx]⟩
theorem allB_yes {α : Type} {m : Nat} {f : α -> Bool} {l : List α} (h : l.length <= m) (hx : ∀ i x, i < l.length -> l[i]? = some x -> f x = true) : allB m f l = true := by
 rw [allB_iff]
 refine ⟨h, fun x hm => ?_⟩
 obtain ⟨i, hi, rfl⟩ := List.getElem_of_mem hm
 exact hx i _ hi (List.getElem?_eq_getElem hi)
theorem allB_nil {α : Type} {m : Nat} {f : α -> Bool} : allB m f ([] : List α) = true := by unfold allB; simp
theorem sP_at {α : Type} {c : α -> List Value} {ok : Nat -> Prop} {w : World} {b o : Nat} {x : α} (h : ∃ vs, sP c ok w vs x /\ CellsAt w b o vs) : CellsAt w b o (c x) := by
 obtain ⟨vs, rfl, h⟩ := h
 exact h
theorem all_str (f : ByteArray -> Bool) (m : Nat) (ok : Nat -> Prop) (v : Value) (xs : List ByteArray) (w : World) (hr : RdX 1 (sP strC) ok w v xs) (hm : m <= 100000)
  (hf : ∀ x ∈ xs, ∀ w', Below w.heap.size w w' -> Calls Tryz.prog 154 #[.string x] w' fun e w'' => e = .returned (.bool (f x)) /\ Below w'.heap.size w' w'') :
  Calls Tryz.prog 155 #[v, .int .i64 m, .func (.func 154) #[] #[]] w fun e w' => e = .returned (.bool (allB m f xs)) /\ Below w.heap.size w w' := by
 have HFF := hid hf
 clear hf
 obtain ⟨p, cap, rfl, hcap⟩ := hr.len
 by_cases hl : xs.length <= m
 ·by_cases h0 : xs = []
  ·subst h0
   clear hl hcap hr
   go_enter Tryz.func155, Tryz.ntmps155
   go_wp2_with fail
   go_loop [15] (fun i => i = .int .i64 0) (fun _ => 0)
   case atStart => exact rfl
   case round =>
    obtain rfl := hrel
    go_wp2_with fail
    go_ret
    exact ⟨D.ret_bool allB_nil.symm, Below.refl _ _⟩
  ·obtain ⟨b, off, rfl, -, -, hok, hlt, hc⟩ := hr.place h0
   have HC := hid hc
   have HL := hid hl
   have HR0 := hid hr
   have hm2 : xs.length <= 100000 := by omega
   have hd : decide (m < xs.length) = false := by simp; omega
   clear hc hr hcap h0
   go_enter Tryz.func155, Tryz.ntmps155
   go_wp2_with fail
   go_loopw [15] (fun i wr => ∃ k : Nat, k <= xs.length /\ i = .int .i64 k /\ (∀ j x, j < k -> xs[j]? = some x -> f x = true) /\ Below w.heap.size w wr) (fun i _ => xs.length - (intOf i).toNat)
   case atStart => exact ⟨0, Nat.zero_le _, rfl, fun j x h => absurd h (Nat.not_lt_zero _), Below.refl _ _⟩
   case round =>
    obtain ⟨k, hk, rfl, hr, hbl⟩ := hrel
    have HR := hid hr
    have hsz := hbl.size
    clear hr
    by_cases hlt2 : k < xs.length
    ·obtain ⟨x, hx⟩ : ∃ x, xs[k]? = some x := ⟨_, List.getElem?_eq_getElem hlt2⟩
     have hmem := hid (List.mem_of_getElem? hx)
     have hcl := (sP_at (HC.out k x hx)).below hbl hlt
     have hc0 := hcl.one
     rw [Nat.mul_one] at hc0
     have HX := hid hx
     clear hx hcl
     go_wp2_with fail
     refine (HFF.out x hmem.out _ hbl).mono ?_
     rintro e w1 ⟨rfl, hb1⟩
     have hB : Below w.heap.size w w1 := hbl.trans (hb1.mono hsz)
     cases hfx : f x with
     | false =>
      have HF := hid (allB_no (m := m) HX.out hfx)
      go_wp2_with fail
      go_ret
      exact ⟨D.ret_bool HF.out.symm, hB⟩
     | true =>
      have HS : Hid (∀ j x, j < k + 1 -> xs[j]? = some x -> f x = true) := hid (by
       intro j y hj hy
       by_cases ej : j = k
       ·subst ej
        rw [HX.out] at hy
        cases hy
        exact hfx
       ·exact HR.out j y (by omega) hy)
      go_wp2_with fail
      go_roundw
      case rel => exact ⟨k + 1, by omega, by go_num, HS.out, hB⟩
      case measure => simp [intOf]; omega
    ·have HF : Hid (allB m f xs = true) := hid (allB_yes HL.out (fun i x hi hx => HR.out i x (by omega) hx))
     go_wp2_with fail
     go_ret
     exact ⟨D.ret_bool HF.out.symm, hbl⟩
 ·have HF := hid (allB_len (f := f) hl)
  have hd : decide (m < xs.length) = true := by simp; omega
  clear hr hcap
  go_enter Tryz.func155, Tryz.ntmps155
  go_wp2_with fail
  go_ret
  exact ⟨D.ret_bool HF.out.symm, Below.refl _ _⟩
theorem all_ty (f : Ty -> Bool) (m : Nat) (ok : Nat -> Prop) (v : Value) (xs : List Ty) (w : World) (hr : RdX 2 (sP tyC) ok w v xs) (hm : m <= 100000)
  (hf : ∀ x ∈ xs, ∀ vs w', (sP tyC) ok w' vs x -> Below w.heap.size w w' -> Calls Tryz.prog 188 #[.agg vs.toArray] w' fun e w'' => e = .returned (.bool (f x)) /\ Below w'.heap.size w' w'') :
  Calls Tryz.prog 189 #[v, .int .i64 m, .func (.func 188) #[] #[]] w fun e w' => e = .returned (.bool (allB m f xs)) /\ Below w.heap.size w w' := by
 have HFF := hid hf
 clear hf
 obtain ⟨p, cap, rfl, hcap⟩ := hr.len
 by_cases hl : xs.length <= m
 ·by_cases h0 : xs = []
  ·subst h0
   clear hl hcap hr
   go_enter Tryz.func189, Tryz.ntmps189
   go_wp2_with fail
   go_loop [15] (fun i => i = .int .i64 0) (fun _ => 0)
   case atStart => exact rfl
   case round =>
    obtain rfl := hrel
    go_wp2_with fail
    go_ret
    exact ⟨D.ret_bool allB_nil.symm, Below.refl _ _⟩
  ·obtain ⟨b, off, rfl, -, -, hok, hlt, hc⟩ := hr.place h0
   have HC := hid hc
   have HL := hid hl
   have HR0 := hid hr
   have hm2 : xs.length <= 100000 := by omega
   have hd : decide (m < xs.length) = false := by simp; omega
   clear hc hr hcap h0
   go_enter Tryz.func189, Tryz.ntmps189
   go_wp2_with fail
   go_loopw [15] (fun i wr => ∃ k : Nat, k <= xs.length /\ i = .int .i64 k /\ (∀ j x, j < k -> xs[j]? = some x -> f x = true) /\ Below w.heap.size w wr) (fun i _ => xs.length - (intOf i).toNat)
   case atStart => exact ⟨0, Nat.zero_le _, rfl, fun j x h => absurd h (Nat.not_lt_zero _), Below.refl _ _⟩
   case round =>
    obtain ⟨k, hk, rfl, hr, hbl⟩ := hrel
    have HR := hid hr
    have hsz := hbl.size
    clear hr
    by_cases hlt2 : k < xs.length
    ·obtain ⟨x, hx⟩ : ∃ x, xs[k]? = some x := ⟨_, List.getElem?_eq_getElem hlt2⟩
     have hmem := hid (List.mem_of_getElem? hx)
     have hcl := (sP_at (HC.out k x hx)).below hbl hlt
     obtain ⟨s0, s1⟩ := x
     obtain ⟨hc0, hc1⟩ := CellsAt.two hcl
     have HX := hid hx
     clear hx hcl
     go_wp2_with fail
     refine (HFF.out _ hmem.out _ _ rfl (hbl.alloc hsz _)).mono ?_
     rintro e w1 ⟨rfl, hb1⟩
     have hB : Below w.heap.size w w1 := (hbl.alloc hsz _).trans (hb1.mono (by simp; omega))
     cases hfx : f (s0, s1) with
     | false =>
      have HF := hid (allB_no (m := m) HX.out hfx)
      go_wp2_with fail
      go_ret
      exact ⟨D.ret_bool HF.out.symm, hB⟩
     | true =>
      have HS : Hid (∀ j x, j < k + 1 -> xs[j]? = some x -> f x = true) := hid (by
       intro j y hj hy
       by_cases ej : j = k
       ·subst ej
        rw [HX.out] at hy
        cases hy
        exact hfx
       ·exact HR.out j y (by omega) hy)
      go_wp2_with fail
      go_roundw
      case rel => exact ⟨k + 1, by omega, by go_num, HS.out, hB⟩
      case measure => simp [intOf]; omega
    ·have HF : Hid (allB m f xs = true) := hid (allB_yes HL.out (fun i x hi hx => HR.out i x (by omega) hx))
     go_wp2_with fail
     go_ret
     exact ⟨D.ret_bool HF.out.symm, hbl⟩
 ·have HF := hid (allB_len (f := f) hl)
  have hd : decide (m < xs.length) = true := by simp; omega
  clear hr hcap
  go_enter Tryz.func189, Tryz.ntmps189
  go_wp2_with fail
  go_ret
  exact ⟨D.ret_bool HF.out.symm, Below.refl _ _⟩
theorem all_ins (f : Ins -> Bool) (m : Nat) (ok : Nat -> Prop) (v : Value) (xs : List Ins) (w : World) (hr : RdX 7 (sP insC) ok w v xs) (hm : m <= 100000)
  (hf : ∀ x ∈ xs, ∀ vs w', (sP insC) ok w' vs x -> Below w.heap.size w w' -> Calls Tryz.prog 193 #[.agg vs.toArray] w' fun e w'' => e = .returned (.bool (f x)) /\ Below w'.heap.size w' w'') :
  Calls Tryz.prog 192 #[v, .int .i64 m, .func (.func 193) #[] #[]] w fun e w' => e = .returned (.bool (allB m f xs)) /\ Below w.heap.size w w' := by
 have HFF := hid hf
 clear hf
 obtain ⟨p, cap, rfl, hcap⟩ := hr.len
 by_cases hl : xs.length <= m
 ·by_cases h0 : xs = []
  ·subst h0
   clear hl hcap hr
   go_enter Tryz.func192, Tryz.ntmps192
   go_wp2_with fail
   go_loop [15] (fun i => i = .int .i64 0) (fun _ => 0)
   case atStart => exact rfl
   case round =>
    obtain rfl := hrel
    go_wp2_with fail
    go_ret
    exact ⟨D.ret_bool allB_nil.symm, Below.refl _ _⟩
  ·obtain ⟨b, off, rfl, -, -, hok, hlt, hc⟩ := hr.place h0
   have HC := hid hc
   have HL := hid hl
   have HR0 := hid hr
   have hm2 : xs.length <= 100000 := by omega
   have hd : decide (m < xs.length) = false := by simp; omega
   clear hc hr hcap h0
   go_enter Tryz.func192, Tryz.ntmps192
   go_wp2_with fail
   go_loopw [15] (fun i wr => ∃ k : Nat, k <= xs.length /\ i = .int .i64 k /\ (∀ j x, j < k -> xs[j]? = some x -> f x = true) /\ Below w.heap.size w wr) (fun i _ => xs.length - (intOf i).toNat)
   case atStart => exact ⟨0, Nat.zero_le _, rfl, fun j x h => absurd h (Nat.not_lt_zero _), Below.refl _ _⟩
   case round =>
    obtain ⟨k, hk, rfl, hr, hbl⟩ := hrel
    have HR := hid hr
    have hsz := hbl.size
    clear hr
    by_cases hlt2 : k < xs.length
    ·obtain ⟨x, hx⟩ : ∃ x, xs[k]? = some x := ⟨_, List.getElem?_eq_getElem hlt2⟩
     have hmem := hid (List.mem_of_getElem? hx)
     have hcl := (sP_at (HC.out k x hx)).below hbl hlt
     obtain ⟨s0, s1, s2, s3, s4, s5, s6⟩ := x
     obtain ⟨hc0, hc1, hc2, hc3, hc4, hc5, hc6⟩ := CellsAt.seven hcl
     have HX := hid hx
     clear hx hcl
     go_wp2_with fail
     refine (HFF.out _ hmem.out _ _ rfl (hbl.alloc hsz _)).mono ?_
     rintro e w1 ⟨rfl, hb1⟩
     have hB : Below w.heap.size w w1 := (hbl.alloc hsz _).trans (hb1.mono (by simp; omega))
     cases hfx : f (s0, s1, s2, s3, s4, s5, s6) with
     | false =>
      have HF := hid (allB_no (m := m) HX.out hfx)
      go_wp2_with fail
      go_ret
      exact ⟨D.ret_bool HF.out.symm, hB⟩
     | true =>
      have HS : Hid (∀ j x, j < k + 1 -> xs[j]? = some x -> f x = true) := hid (by
       intro j y hj hy
       by_cases ej : j = k
       ·subst ej
        rw [HX.out] at hy
        cases hy
        exact hfx
       ·exact HR.out j y (by omega) hy)
      go_wp2_with fail
      go_roundw
      case rel => exact ⟨k + 1, by omega, by go_num, HS.out, hB⟩
      case measure => simp [intOf]; omega
    ·have HF : Hid (allB m f xs = true) := hid (allB_yes HL.out (fun i x hi hx => HR.out i x (by omega) hx))
     go_wp2_with fail
     go_ret
     exact ⟨D.ret_bool HF.out.symm, hbl⟩
 ·have HF := hid (allB_len (f := f) hl)
  have hd : decide (m < xs.length) = true := by simp; omega
  clear hr hcap
  go_enter Tryz.func192, Tryz.ntmps192
  go_wp2_with fail
  go_ret
  exact ⟨D.ret_bool HF.out.symm, Below.refl _ _⟩
theorem all_hnd (f : Hnd -> Bool) (m : Nat) (ok : Nat -> Prop) (v : Value) (xs : List Hnd) (w : World) (hr : RdX 4 (sP hndC) ok w v xs) (hm : m <= 100000)
  (hf : ∀ x ∈ xs, ∀ vs w', (sP hndC) ok w' vs x -> Below w.heap.size w w' -> Calls Tryz.prog 195 #[.agg vs.toArray] w' fun e w'' => e = .returned (.bool (f x)) /\ Below w'.heap.size w' w'') :
  Calls Tryz.prog 194 #[v, .int .i64 m, .func (.func 195) #[] #[]] w fun e w' => e = .returned (.bool (allB m f xs)) /\ Below w.heap.size w w' := by
 have HFF := hid hf
 clear hf
 obtain ⟨p, cap, rfl, hcap⟩ := hr.len
 by_cases hl : xs.length <= m
 ·by_cases h0 : xs = []
  ·subst h0
   clear hl hcap hr
   go_enter Tryz.func194, Tryz.ntmps194
   go_wp2_with fail
   go_loop [15] (fun i => i = .int .i64 0) (fun _ => 0)
   case atStart => exact rfl
   case round =>
    obtain rfl := hrel
    go_wp2_with fail
    go_ret
    exact ⟨D.ret_bool allB_nil.symm, Below.refl _ _⟩
  ·obtain ⟨b, off, rfl, -, -, hok, hlt, hc⟩ := hr.place h0
   have HC := hid hc
   have HL := hid hl
   have HR0 := hid hr
   have hm2 : xs.length <= 100000 := by omega
   have hd : decide (m < xs.length) = false := by simp; omega
   clear hc hr hcap h0
   go_enter Tryz.func194, Tryz.ntmps194
   go_wp2_with fail
   go_loopw [15] (fun i wr => ∃ k : Nat, k <= xs.length /\ i = .int .i64 k /\ (∀ j x, j < k -> xs[j]? = some x -> f x = true) /\ Below w.heap.size w wr) (fun i _ => xs.length - (intOf i).toNat)
   case atStart => exact ⟨0, Nat.zero_le _, rfl, fun j x h => absurd h (Nat.not_lt_zero _), Below.refl _ _⟩
   case round =>
    obtain ⟨k, hk, rfl, hr, hbl⟩ := hrel
    have HR := hid hr
    have hsz := hbl.size
    clear hr
    by_cases hlt2 : k < xs.length
    ·obtain ⟨x, hx⟩ : ∃ x, xs[k]? = some x := ⟨_, List.getElem?_eq_getElem hlt2⟩
     have hmem := hid (List.mem_of_getElem? hx)
     have hcl := (sP_at (HC.out k x hx)).below hbl hlt
     obtain ⟨s0, s1, s2, s3⟩ := x
     obtain ⟨hc0, hc1, hc2, hc3⟩ := CellsAt.four hcl
     have HX := hid hx
     clear hx hcl
     go_wp2_with fail
     refine (HFF.out _ hmem.out _ _ rfl (hbl.alloc hsz _)).mono ?_
     rintro e w1 ⟨rfl, hb1⟩
     have hB : Below w.heap.size w w1 := (hbl.alloc hsz _).trans (hb1.mono (by simp; omega))
     cases hfx : f (s0, s1, s2, s3) with
     | false =>
      have HF := hid (allB_no (m := m) HX.out hfx)
      go_wp2_with fail
      go_ret
      exact ⟨D.ret_bool HF.out.symm, hB⟩
     | true =>
      have HS : Hid (∀ j x, j < k + 1 -> xs[j]? = some x -> f x = true) := hid (by
       intro j y hj hy
       by_cases ej : j = k
       ·subst ej
        rw [HX.out] at hy
        cases hy
        exact hfx
       ·exact HR.out j y (by omega) hy)
      go_wp2_with fail
      go_roundw
      case rel => exact ⟨k + 1, by omega, by go_num, HS.out, hB⟩
      case measure => simp [intOf]; omega
    ·have HF : Hid (allB m f xs = true) := hid (allB_yes HL.out (fun i x hi hx => HR.out i x (by omega) hx))
     go_wp2_with fail
     go_ret
     exact ⟨D.ret_bool HF.out.symm, hbl⟩
 ·have HF := hid (allB_len (f := f) hl)
  have hd : decide (m < xs.length) = true := by simp; omega
  clear hr hcap
  go_enter Tryz.func194, Tryz.ntmps194
  go_wp2_with fail
  go_ret
  exact ⟨D.ret_bool HF.out.symm, Below.refl _ _⟩
theorem all_fld (f : Fld -> Bool) (m : Nat) (ok : Nat -> Prop) (v : Value) (xs : List Fld) (w : World) (hr : RdX 4 (sP fldC) ok w v xs) (hm : m <= 100000)
  (hf : ∀ x ∈ xs, ∀ vs w', (sP fldC) ok w' vs x -> Below w.heap.size w w' -> Calls Tryz.prog 157 #[.agg vs.toArray] w' fun e w'' => e = .returned (.bool (f x)) /\ Below w'.heap.size w' w'') :
  Calls Tryz.prog 156 #[v, .int .i64 m, .func (.func 157) #[] #[]] w fun e w' => e = .returned (.bool (allB m f xs)) /\ Below w.heap.size w w' := by
 have HFF := hid hf
 clear hf
 obtain ⟨p, cap, rfl, hcap⟩ := hr.len
 by_cases hl : xs.length <= m
 ·by_cases h0 : xs = []
  ·subst h0
   clear hl hcap hr
   go_enter Tryz.func156, Tryz.ntmps156
   go_wp2_with fail
   go_loop [15] (fun i => i = .int .i64 0) (fun _ => 0)
   case atStart => exact rfl
   case round =>
    obtain rfl := hrel
    go_wp2_with fail
    go_ret
    exact ⟨D.ret_bool allB_nil.symm, Below.refl _ _⟩
  ·obtain ⟨b, off, rfl, -, -, hok, hlt, hc⟩ := hr.place h0
   have HC := hid hc
   have HL := hid hl
   have HR0 := hid hr
   have hm2 : xs.length <= 100000 := by omega
   have hd : decide (m < xs.length) = false := by simp; omega
   clear hc hr hcap h0
   go_enter Tryz.func156, Tryz.ntmps156
   go_wp2_with fail
   go_loopw [15] (fun i wr => ∃ k : Nat, k <= xs.length /\ i = .int .i64 k /\ (∀ j x, j < k -> xs[j]? = some x -> f x = true) /\ Below w.heap.size w wr) (fun i _ => xs.length - (intOf i).toNat)
   case atStart => exact ⟨0, Nat.zero_le _, rfl, fun j x h => absurd h (Nat.not_lt_zero _), Below.refl _ _⟩
   case round =>
    obtain ⟨k, hk, rfl, hr, hbl⟩ := hrel
    have HR := hid hr
    have hsz := hbl.size
    clear hr
    by_cases hlt2 : k < xs.length
    ·obtain ⟨x, hx⟩ : ∃ x, xs[k]? = some x := ⟨_, List.getElem?_eq_getElem hlt2⟩
     have hmem := hid (List.mem_of_getElem? hx)
     have hcl := (sP_at (HC.out k x hx)).below hbl hlt
     obtain ⟨s0, ⟨s1, s2⟩, s3⟩ := x
     obtain ⟨hc0, hc1, hc2, hc3⟩ := CellsAt.four hcl
     have HX := hid hx
     clear hx hcl
     go_wp2_with fail
     refine (HFF.out _ hmem.out _ _ rfl (hbl.alloc hsz _)).mono ?_
     rintro e w1 ⟨rfl, hb1⟩
     have hB : Below w.heap.size w w1 := (hbl.alloc hsz _).trans (hb1.mono (by simp; omega))
     cases hfx : f (s0, (s1, s2), s3) with
     | false =>
      have HF := hid (allB_no (m := m) HX.out hfx)
      go_wp2_with fail
      go_ret
      exact ⟨D.ret_bool HF.out.symm, hB⟩
     | true =>
      have HS : Hid (∀ j x, j < k + 1 -> xs[j]? = some x -> f x = true) := hid (by
       intro j y hj hy
       by_cases ej : j = k
       ·subst ej
        rw [HX.out] at hy
        cases hy
        exact hfx
       ·exact HR.out j y (by omega) hy)
      go_wp2_with fail
      go_roundw
      case rel => exact ⟨k + 1, by omega, by go_num, HS.out, hB⟩
      case measure => simp [intOf]; omega
    ·have HF : Hid (allB m f xs = true) := hid (allB_yes HL.out (fun i x hi hx => HR.out i x (by omega) hx))
     go_wp2_with fail
     go_ret
     exact ⟨D.ret_bool HF.out.symm, hbl⟩
 ·have HF := hid (allB_len (f := f) hl)
  have hd : decide (m < xs.length) = true := by simp; omega
  clear hr hcap
  go_enter Tryz.func156, Tryz.ntmps156
  go_wp2_with fail
  go_ret
  exact ⟨D.ret_bool HF.out.symm, Below.refl _ _⟩
theorem all_mth (f : Mth -> Bool) (m : Nat) (ok : Nat -> Prop) (v : Value) (xs : List Mth) (w : World) (hr : RdX 9 mP ok w v xs) (hm : m <= 100000)
  (hf : ∀ x ∈ xs, ∀ vs w', mP ok w' vs x -> Below w.heap.size w w' -> Calls Tryz.prog 159 #[.agg vs.toArray] w' fun e w'' => e = .returned (.bool (f x)) /\ Below w'.heap.size w' w'') :
  Calls Tryz.prog 158 #[v, .int .i64 m, .func (.func 159) #[] #[]] w fun e w' => e = .returned (.bool (allB m f xs)) /\ Below w.heap.size w w' := by
 have HFF := hid hf
 clear hf
 obtain ⟨p, cap, rfl, hcap⟩ := hr.len
 by_cases hl : xs.length <= m
 ·by_cases h0 : xs = []
  ·subst h0
   clear hl hcap hr
   go_enter Tryz.func158, Tryz.ntmps158
   go_wp2_with fail
   go_loop [15] (fun i => i = .int .i64 0) (fun _ => 0)
   case atStart => exact rfl
   case round =>
    obtain rfl := hrel
    go_wp2_with fail
    go_ret
    exact ⟨D.ret_bool allB_nil.symm, Below.refl _ _⟩
  ·obtain ⟨b, off, rfl, -, -, hok, hlt, hc⟩ := hr.place h0
   have HC := hid hc
   have HL := hid hl
   have HR0 := hid hr
   have hm2 : xs.length <= 100000 := by omega
   have hd : decide (m < xs.length) = false := by simp; omega
   clear hc hr hcap h0
   go_enter Tryz.func158, Tryz.ntmps158
   go_wp2_with fail
   go_loopw [15] (fun i wr => ∃ k : Nat, k <= xs.length /\ i = .int .i64 k /\ (∀ j x, j < k -> xs[j]? = some x -> f x = true) /\ Below w.heap.size w wr) (fun i _ => xs.length - (intOf i).toNat)
   case atStart => exact ⟨0, Nat.zero_le _, rfl, fun j x h => absurd h (Nat.not_lt_zero _), Below.refl _ _⟩
   case round =>
    obtain ⟨k, hk, rfl, hr, hbl⟩ := hrel
    have HR := hid hr
    have hsz := hbl.size
    clear hr
    by_cases hlt2 : k < xs.length
    ·obtain ⟨x, hx⟩ : ∃ x, xs[k]? = some x := ⟨_, List.getElem?_eq_getElem hlt2⟩
     have hmem := hid (List.mem_of_getElem? hx)
     obtain ⟨vs, hv, hcl⟩ := HC.out k x hx
     have hv' := hv
     obtain ⟨vp, vc, vh, rfl, hd0, hd1, hd2⟩ := hv'
     have hcl2 := CellsAt.nine (hcl.below hbl hlt)
     obtain ⟨hc0, hc1, hc2, hc3, hc4, hc5, hc6, hc7, hc8⟩ := hcl2
     obtain ⟨pvp, cvp, rfl, -⟩ := hd0.len
     obtain ⟨pvc, cvc, rfl, -⟩ := hd1.len
     obtain ⟨pvh, cvh, rfl, -⟩ := hd2.len
     have HV := hid hv
     have HX := hid hx
     clear hx hcl hv hd0 hd1 hd2
     go_wp2_with fail
     refine (HFF.out x hmem.out _ _ (mP.grow _ _ _ _ _ _ HV.out (fun _ h _ => h) (.of_below (hbl.trans ((Below.refl _ _).alloc hsz _))) (by simp; omega)) (hbl.alloc hsz _)).mono ?_
     rintro e w1 ⟨rfl, hb1⟩
     have hB : Below w.heap.size w w1 := (hbl.alloc hsz _).trans (hb1.mono (by simp; omega))
     cases hfx : f x with
     | false =>
      have HF := hid (allB_no (m := m) HX.out hfx)
      go_wp2_with fail
      go_ret
      exact ⟨D.ret_bool HF.out.symm, hB⟩
     | true =>
      have HS : Hid (∀ j x, j < k + 1 -> xs[j]? = some x -> f x = true) := hid (by
       intro j y hj hy
       by_cases ej : j = k
       ·subst ej
        rw [HX.out] at hy
        cases hy
        exact hfx
       ·exact HR.out j y (by omega) hy)
      go_wp2_with fail
      go_roundw
      case rel => exact ⟨k + 1, by omega, by go_num, HS.out, hB⟩
      case measure => simp [intOf]; omega
    ·have HF : Hid (allB m f xs = true) := hid (allB_yes HL.out (fun i x hi hx => HR.out i x (by omega) hx))
     go_wp2_with fail
     go_ret
     exact ⟨D.ret_bool HF.out.symm, hbl⟩
 ·have HF := hid (allB_len (f := f) hl)
  have hd : decide (m < xs.length) = true := by simp; omega
  clear hr hcap
  go_enter Tryz.func158, Tryz.ntmps158
  go_wp2_with fail
  go_ret
  exact ⟨D.ret_bool HF.out.symm, Below.refl _ _⟩
theorem all_cls (f : Cls -> Bool) (m : Nat) (ok : Nat -> Prop) (v : Value) (xs : List Cls) (w : World) (hr : RdX 6 cP ok w v xs) (hm : m <= 100000)
  (hf : ∀ x ∈ xs, ∀ vs w', cP ok w' vs x -> Below w.heap.size w w' -> Calls Tryz.prog 112 #[.agg vs.toArray] w' fun e w'' => e = .returned (.bool (f x)) /\ Below w'.heap.size w' w'') :
  Calls Tryz.prog 111 #[v, .int .i64 m, .func (.func 112) #[] #[]] w fun e w' => e = .returned (.bool (allB m f xs)) /\ Below w.heap.size w w' := by
 have HFF := hid hf
 clear hf
 obtain ⟨p, cap, rfl, hcap⟩ := hr.len
 by_cases hl : xs.length <= m
 ·by_cases h0 : xs = []
  ·subst h0
   clear hl hcap hr
   go_enter Tryz.func111, Tryz.ntmps111
   go_wp2_with fail
   go_loop [15] (fun i => i = .int .i64 0) (fun _ => 0)
   case atStart => exact rfl
   case round =>
    obtain rfl := hrel
    go_wp2_with fail
    go_ret
    exact ⟨D.ret_bool allB_nil.symm, Below.refl _ _⟩
  ·obtain ⟨b, off, rfl, -, -, hok, hlt, hc⟩ := hr.place h0
   have HC := hid hc
   have HL := hid hl
   have HR0 := hid hr
   have hm2 : xs.length <= 100000 := by omega
   have hd : decide (m < xs.length) = false := by simp; omega
   clear hc hr hcap h0
   go_enter Tryz.func111, Tryz.ntmps111
   go_wp2_with fail
   go_loopw [15] (fun i wr => ∃ k : Nat, k <= xs.length /\ i = .int .i64 k /\ (∀ j x, j < k -> xs[j]? = some x -> f x = true) /\ Below w.heap.size w wr) (fun i _ => xs.length - (intOf i).toNat)
   case atStart => exact ⟨0, Nat.zero_le _, rfl, fun j x h => absurd h (Nat.not_lt_zero _), Below.refl _ _⟩
   case round =>
    obtain ⟨k, hk, rfl, hr, hbl⟩ := hrel
    have HR := hid hr
    have hsz := hbl.size
    clear hr
    by_cases hlt2 : k < xs.length
    ·obtain ⟨x, hx⟩ : ∃ x, xs[k]? = some x := ⟨_, List.getElem?_eq_getElem hlt2⟩
     have hmem := hid (List.mem_of_getElem? hx)
     obtain ⟨vs, hv, hcl⟩ := HC.out k x hx
     have hv' := hv
     obtain ⟨vi, vf, vm, rfl, hd0, hd1, hd2⟩ := hv'
     have hcl2 := CellsAt.six (hcl.below hbl hlt)
     obtain ⟨hc0, hc1, hc2, hc3, hc4, hc5⟩ := hcl2
     obtain ⟨pvi, cvi, rfl, -⟩ := hd0.len
     obtain ⟨pvf, cvf, rfl, -⟩ := hd1.len
     obtain ⟨pvm, cvm, rfl, -⟩ := hd2.len
     have HV := hid hv
     have HX := hid hx
     clear hx hcl hv hd0 hd1 hd2
     go_wp2_with fail
     refine (HFF.out x hmem.out _ _ (cP.grow _ _ _ _ _ _ HV.out (fun _ h _ => h) (.of_below (hbl.trans ((Below.refl _ _).alloc hsz _))) (by simp; omega)) (hbl.alloc hsz _)).mono ?_
     rintro e w1 ⟨rfl, hb1⟩
     have hB : Below w.heap.size w w1 := (hbl.alloc hsz _).trans (hb1.mono (by simp; omega))
     cases hfx : f x with
     | false =>
      have HF := hid (allB_no (m := m) HX.out hfx)
      go_wp2_with fail
      go_ret
      exact ⟨D.ret_bool HF.out.symm, hB⟩
     | true =>
      have HS : Hid (∀ j x, j < k + 1 -> xs[j]? = some x -> f x = true) := hid (by
       intro j y hj hy
       by_cases ej : j = k
       ·subst ej
        rw [HX.out] at hy
        cases hy
        exact hfx
       ·exact HR.out j y (by omega) hy)
      go_wp2_with fail
      go_roundw
      case rel => exact ⟨k + 1, by omega, by go_num, HS.out, hB⟩
      case measure => simp [intOf]; omega
    ·have HF : Hid (allB m f xs = true) := hid (allB_yes HL.out (fun i x hi hx => HR.out i x (by omega) hx))
     go_wp2_with fail
     go_ret
     exact ⟨D.ret_bool HF.out.symm, hbl⟩
 ·have HF := hid (allB_len (f := f) hl)
  have hd : decide (m < xs.length) = true := by simp; omega
  clear hr hcap
  go_enter Tryz.func111, Tryz.ntmps111
  go_wp2_with fail
  go_ret
  exact ⟨D.ret_bool HF.out.symm, Below.refl _ _⟩
end Go.Proofs.YtijnimjmimeefaaGreat.A
