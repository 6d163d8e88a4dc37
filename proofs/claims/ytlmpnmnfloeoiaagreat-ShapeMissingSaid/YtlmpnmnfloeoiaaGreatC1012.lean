/- Texts that the proof is made of, joined. No condition. -/
import Derived.Test.YtlmpnmnfloeoiaaGreatC1011
import Derived.Shelf.Strings.Builder1
import Derived.Shelf.Small.Bits
import Derived.Shelf.Strings.BuilderF
import Derived.Shelf.Strings.BuilderK
import Derived.Shelf.Strconv.Itoa0
import Derived.Ground.SlsfProg
import Derived.Shelf.SlSortCmp.Insertion
import Derived.Shelf.SlSortCmp.SiftDown1
import Derived.Shelf.SlSortCmp.HeapSort1
import Derived.Shelf.SlSortCmp.Insertion1
import Derived.Shelf.SlSortCmp.Median1
import Derived.Shelf.SlSortCmp.Pivot1
import Derived.Shelf.SlSortCmp.ReverseRange1
import Derived.Shelf.SlSortCmp.PartialInsertion1
import Derived.Shelf.SlSortCmp.PartitionEqual1
import Derived.Shelf.SlSortCmp.Partition1
import Derived.Shelf.SlSortCmp.Pdq1
import Derived.Shelf.SlSortCmp.Whole1
import Derived.Test.YtlmpnmnfloeoiaaGreatProg
import Derived.Test.YtlmpnmnfloeoiaaGreatC103
import Derived.Lib.Bytealg
import Derived.Test.YtlmpnmnfloeoiaaGreatC100
import Derived.Test.YtlmpnmnfloeoiaaGreatC102
import Derived.DeepKeys4
import Derived.Test.YtlmpnmnfloeoiaaGreatC104
import Derived.Lib.AppendZeros
import Derived.Test.YtlmpnmnfloeoiaaGreatC10H
set_option linter.unusedVariables false
set_option linter.unusedSimpArgs false
set_option maxRecDepth 100000
set_option maxHeartbeats 16000000
namespace Go.Proofs.YtlmpnmnfloeoiaaGreat.R
open Go.RowKit Go.Proofs.YtlmpnmnfloeoiaaGreat.D Go.Proofs.YtlmpnmnfloeoiaaGreat.O Go.Proofs.YtlmpnmnfloeoiaaGreat.A
def ClR (W : World) (N : Nat) (c : Cls) (pi pf pm : Option Addr) (ci cf cm : Nat) : Prop :=
  RdX 1 (sP strC) (fun b => b < N) W (.slice pi c.ifaces.length ci) c.ifaces ∧ RdX 4 (sP fldC) (fun b => b < N) W (.slice pf c.fields.length cf) c.fields ∧ RdX 9 mP (fun b => b < N) W (.slice pm c.methods.length cm) c.methods
theorem ClR.kpt {W W' : World} {N : Nat} {c : Cls} {pi pf pm : Option Addr} {ci cf cm : Nat} {Sx : List Nat} (h : ClR W N c pi pf pm ci cf cm) (hk : S.Kpt Sx W W') (hS : ∀ x ∈ Sx, N ≤ x) : ClR W' N c pi pf pm ci cf cm := by
  have kk : Keeps (fun b => b < N) W W' := fun b hb hl => hk.2 b hl (fun hx => by have := hS b hx; omega)
  exact ⟨h.1.step (sP.grow _) (fun _ h _ => h) kk hk.size, h.2.1.step (sP.grow _) (fun _ h _ => h) kk hk.size, h.2.2.step mP.grow (fun _ h _ => h) kk hk.size⟩
def AskC (K : List Cls) (c : Cls) : Prop := clsK K c.name = c ∧ c ∈ K ∧ knownT (K.map skOf) c.name = true ∧ (∀ f ∈ c.fields, f.1.size ≤ maxLen ∧ f.2.1.2.size ≤ maxLen)
theorem AskC.sizes {w : World} {N lb fb tb mt : Nat} {vs : Value} {K : List Cls} {c : Cls} (h : AskC K c) (hl : LkW w N lb fb tb mt vs K) : c.name.size ≤ maxLen ∧ c.super.size ≤ maxLen ∧ c.ifaces.length ≤ 100 ∧ ∀ i ∈ c.ifaces, i.size ≤ maxLen :=
  hl.1.2.2.2.2.2.2 _ (List.mem_map.2 ⟨c, h.2.1, rfl⟩)
theorem kind_cls (K : List Cls) (n : ByteArray) : (clsK K n).kind = kindT (K.map skOf) n := (kind_sk K n).symm
set_option maxHeartbeats 2000000 in
set_option maxRecDepth 100000 in
theorem oddI_h (N lb fb tb mt : Nat) (vs : Value) (K : List Cls) (b1 : Nat) (x : ByteArray) (w : World) (h : LkW w N lb fb tb mt vs K) (ha : AskH K) (hn : x.size ≤ maxLen) (hb : w.cell? ⟨b1, 0, none⟩ = some (.pointer (some ⟨lb, 0, none⟩))) :
    Calls Tryz.prog 59 (#[.string x] ++ #[.pointer (some ⟨b1, 0, none⟩)]) w fun e w' => e = .returned (.bool (oddI K x)) ∧ LkW w' N lb fb tb mt vs K ∧ S.Kpt [fb] w w' := by
  show Calls _ _ #[.string x, .pointer (some ⟨b1, 0, none⟩)] _ _
  have HK := Lib.hid h
  have HA := Lib.hid ha
  obtain ⟨hlb, hfb, hlf, c0, c1⟩ := h.cells
  clear h ha
  have hkt := known_t _ tb mt vs K x w HK.out.1 hn
  cases hkn : knownT (K.map skOf) x with
  | false =>
    rw [hkn] at hkt
    have HR : Hid (oddI K x = true) := Lib.hid (by unfold oddI; rw [hkn]; rfl)
    clear hkn
    go_enter Tryz.func59, Tryz.ntmps59
    go_wp2_with (go_at_call 19; refine hkt.mono ?_; rintro e w1 ⟨rfl, hb1⟩)
    go_ret
    exact ⟨by rw [HR.out]; rfl, HK.out.below hb1, S.Kpt.of_below hb1⟩
  | true =>
    rw [hkn] at hkt
    have HKN := Lib.hid hkn
    have hbl : b1 < w.heap.size := by
      by_cases hlt : b1 < w.heap.size
      · exact hlt
      · rw [World.cell?, Array.getElem?_eq_none (by show _ ≤ b1; omega)] at hb
        cases hb
    have HR : Hid (oddI K x = decide (kindT (K.map skOf) x ≠ 4)) := Lib.hid (by unfold oddI; rw [hkn]; rfl)
    clear hkn
    go_enter Tryz.func59, Tryz.ntmps59
    go_wp2_with (go_at_call 19; refine hkt.mono ?_; rintro e w1 ⟨rfl, hb1⟩; have HB1 := Lib.hid hb1; have hbx := (hb1.cell hbl).trans hb; clear hb1)
    refine (face_h N lb fb tb mt vs K x w1 (HK.out.below HB1.out) hn HA.out (ask_known HKN.out)).mono ?_
    rintro e w2 ⟨⟨fk, fp, fn, fc⟩, rfl, hfv, hk2, hp2⟩
    have hfk : fk = kindT (K.map skOf) x := hfv.1.trans (kind_cls K x)
    have HK2 := Lib.hid hk2
    have HP2 : Hid (S.Kpt [fb] w w2) := Lib.hid ((S.Kpt.of_below (S := [fb]) HB1.out).trans hp2 (fun y hy => .inl hy))
    rw [← hfk] at HR
    clear hfv hk2 hp2 hfk
    dsimp only [fmk]
    have hfs := field_kind fk fp fn fc w2
    by_cases h4 : fk = 4
    · subst h4
      go_wp2_with fail
      go_ret
      exact ⟨by rw [HR.out]; rfl, HK2.out, HP2.out⟩
    · have h4b : (fk != (4 : Int)) = true := by simpa using h4
      have h4c : decide (fk = (4 : Int)) = false := by simpa using h4
      have HR2 : Hid (oddI K x = true) := Lib.hid (by rw [HR.out]; simpa using h4)
      go_wp2_with fail
      go_ret
      exact ⟨by rw [HR2.out]; rfl, HK2.out, HP2.out⟩
theorem itself_h (x : ByteArray) (w : World) : Calls Tryz.prog 60 #[.string x] w fun e w' => e = .returned (.string x) ∧ Below w.heap.size w w' := by
  go_enter Tryz.func60, Tryz.ntmps60
  go_wp2_with fail
  go_ret
  exact ⟨rfl, Below.refl _ _⟩
theorem two_box (w : World) (x : Value) (cs : Array Value) (T1 T2 : TypeId) : Below w.heap.size w ((w.alloc (.cells #[x] T1)).alloc (.cells cs T2)) ∧ ((w.alloc (.cells #[x] T1)).alloc (.cells cs T2)).heap[w.heap.size]? = some (.cells #[x] T1 (0, 0)) ∧ ((w.alloc (.cells #[x] T1)).alloc (.cells cs T2)).heap[w.heap.size + 1]? = some (.cells cs T2 (0, 0)) ∧ ((w.alloc (.cells #[x] T1)).alloc (.cells cs T2)).heap.size = w.heap.size + 2 := by
  refine ⟨((Below.refl _ w).alloc (Nat.le_refl _) _).alloc (by simp) _, ((below_alR _ _).block _ (by simp)).trans (heap_alloc_new w _), ?_, by simp⟩
  have := heap_alloc_new (w.alloc (.cells #[x] T1)) (.cells cs T2)
  rwa [World.size_alloc] at this
theorem cells6 {W : World} {b : Nat} {v0 v1 v2 v3 v4 v5 : Value} {T : TypeId} (h : W.heap[b]? = some (.cells #[v0, v1, v2, v3, v4, v5] T (0, 0))) : b < W.heap.size ∧ W.cell? ⟨b, 0, none⟩ = some v0 ∧ W.cell? ⟨b, 1, none⟩ = some v1 ∧ W.cell? ⟨b, 2, none⟩ = some v2 ∧ W.cell? ⟨b, 3, none⟩ = some v3 ∧ W.cell? ⟨b, 4, none⟩ = some v4 ∧ W.cell? ⟨b, 5, none⟩ = some v5 := by
  refine ⟨(Array.getElem?_eq_some_iff.1 h).1, ?_, ?_, ?_, ?_, ?_, ?_⟩ <;> simp [World.cell?, h]
set_option maxHeartbeats 4000000 in
set_option maxRecDepth 100000 in
theorem wrongIfaces_h (N lb fb tb mt : Nat) (vs : Value) (K : List Cls) (c : Cls) (pi pf pm : Option Addr) (ci cf cm : Nat) (w : World) (h : LkW w N lb fb tb mt vs K) (ha : AskH K) (hc : AskC K c) (hr : ClR w N c pi pf pm ci cf cm) :
    Calls Tryz.prog 35 #[.pointer (some ⟨lb, 0, none⟩), .agg #[.string c.name, .string c.super, .slice pi c.ifaces.length ci, .int .i64 c.kind, .slice pf c.fields.length cf, .slice pm c.methods.length cm]] w fun e w' => e = .returned (.bool (ifsK K c)) ∧ LkW w' N lb fb tb mt vs K ∧ S.Kpt [fb] w w' := by
  obtain ⟨-, -, hil, his⟩ := hc.sizes h
  have HK := Lib.hid h
  have HA := Lib.hid ha
  have HR := Lib.hid hr
  have HIS := Lib.hid his
  obtain ⟨hlb, hfb, hlf, c0, c1⟩ := h.cells
  have hNf := h.2.2.2.1
  clear h ha hr his hc
  go_enter Tryz.func35, Tryz.ntmps35
  go_upto_region 1 with fail
  obtain ⟨hB1, hX1, hX2, hz1⟩ := two_box w (.pointer (some ⟨lb, 0, none⟩)) #[.string c.name, .string c.super, .slice pi c.ifaces.length ci, .int .i64 c.kind, .slice pf c.fields.length cf, .slice pm c.methods.length cm] 57 27
  obtain ⟨w1, hw1⟩ : ∃ y, y = (w.alloc (.cells #[.pointer (some ⟨lb, 0, none⟩)] 57)).alloc (.cells #[.string c.name, .string c.super, .slice pi c.ifaces.length ci, .int .i64 c.kind, .slice pf c.fields.length cf, .slice pm c.methods.length cm] 27) := ⟨_, rfl⟩
  rw [← hw1] at hB1 hX1 hX2 hz1 ⊢
  clear hw1
  obtain ⟨b1, hb1⟩ : ∃ y, w.heap.size = y := ⟨_, rfl⟩
  obtain ⟨tc, htc⟩ : ∃ y, w.heap.size + 1 = y := ⟨_, rfl⟩
  have hne : b1 ≠ fb ∧ tc ≠ fb := by omega
  have HNE := Lib.hid hne
  rw [hb1] at hX1
  rw [htc] at hX2
  have HX1 := Lib.hid hX1
  have HX2 := Lib.hid hX2
  have HB1 := Lib.hid hB1
  have HK1 := Lib.hid (HK.out.below hB1)
  have HR1 := Lib.hid (HR.out.kpt (S.Kpt.of_below (S := []) hB1) (fun x hx => by cases hx))
  rw [htc, hb1]
  clear hb1 htc hX1 hX2 hB1 hne c0 c1 HK HR
  have e59 : ∀ args w, (callFunc 59 args).run Tryz.prog w = .ok (.enter 59 args) w := enters_of Tryz.func59 (by kernel_rfl) rfl
  have e60 : ∀ args w, (callFunc 60 args).run Tryz.prog w = .ok (.enter 60 args) w := enters_of Tryz.func60 (by kernel_rfl) rfl
  have hcon := hasI_str pi ci (fun b => b < N) c.ifaces 59 #[.pointer (some ⟨b1, 0, none⟩)] (oddI K) (fun W => LkW W N lb fb tb mt vs K ∧ S.Kpt [fb] w1 W) w1 ⟨HK1.out, S.Kpt.refl _ _⟩
    (fun W hW => (HR1.out.kpt hW.2 (fun x hx => by rw [List.mem_singleton.1 hx]; exact hNf)).1) (by omega) e59
    (fun W x hx hW => (oddI_h N lb fb tb mt vs K b1 x W hW.1 HA.out (HIS.out x hx) (by have := hW.2.block HX1.out (by simpa using HNE.out.1); simp [World.cell?, this])).mono (fun e w' hh => ⟨hh.1, hh.2.1, hW.2.trans hh.2.2 (fun y hy => .inl hy)⟩))
  have HIF : Hid (ifsK K c = (c.ifaces.any (oddI K) || twiceB c.ifaces)) := Lib.hid rfl
  obtain ⟨a, ha⟩ : ∃ y, c.ifaces.any (oddI K) = y := ⟨_, rfl⟩
  rw [ha] at hcon HIF
  have HC := Lib.hid hcon
  clear hcon ha e59 HK1
  obtain ⟨tl, x0, x1, x2, x3, x4, x5⟩ := cells6 HX2.out
  cases a with
  | true =>
    go_wp2_with (go_at_call 61; refine HC.out.mono ?_; rintro e w2 ⟨rfl, hk2, hp2⟩; have HK2 := Lib.hid hk2; have HP2 := Lib.hid hp2; clear hk2 hp2)
    go_ret
    exact ⟨by rw [HIF.out]; rfl, HK2.out, (S.Kpt.of_below (S := [fb]) HB1.out).trans HP2.out (fun y hy => .inl hy)⟩
  | false =>
    have HT := Lib.hid (fun (W : World) (hW : S.Kpt [fb] w1 W) => twice_str pi ci (fun b => b < N) c.ifaces 60 (fun x => x) W (HR1.out.kpt hW (fun x hx => by rw [List.mem_singleton.1 hx]; exact hNf)).1 (by omega) HIS.out e60 (fun W' x _ _ => itself_h x W'))
    rw [show c.ifaces.map (fun x => x) = c.ifaces from List.map_id' _] at HT
    obtain ⟨t, ht⟩ : ∃ y, twiceB c.ifaces = y := ⟨_, rfl⟩
    rw [ht] at HT HIF
    clear ht e60
    go_wp2_with first
      | (go_at_call 61; refine HC.out.mono ?_; rintro e w2 ⟨rfl, hk2, hp2⟩; have HK2 := Lib.hid hk2; have HP2 := Lib.hid hp2; have hX2' := hp2.block HX2.out (by simpa using HNE.out.2); clear hk2 hp2 tl x0 x1 x2 x3 x4 x5; obtain ⟨tl, x0, x1, x2, x3, x4, x5⟩ := cells6 hX2'; clear hX2')
      | (go_at_call 62; refine (HT.out _ HP2.out).mono ?_; rintro e w3 ⟨rfl, hb3⟩; have HK3 := Lib.hid (HK2.out.below hb3); have HP3 := Lib.hid (HP2.out.trans (S.Kpt.of_below (S := [fb]) hb3) (fun y hy => .inl hy)); clear hb3)
    go_ret
    exact ⟨by rw [HIF.out]; first | rfl | simp, HK3.out, (S.Kpt.of_below (S := [fb]) HB1.out).trans HP3.out (fun y hy => .inl hy)⟩
end Go.Proofs.YtlmpnmnfloeoiaaGreat.R
namespace Go.Proofs
open Go.Shelf
def Tryz.laysSlF6_f83_ren : Go.Shelf.Ren := ⟨fun | 6 => 83 | 15 => 105 | 14 => 104 | 28 => 120 | 29 => 121 | 20 => 112 | 21 => 113 | 22 => 114 | 23 => 115 | 24 => 116 | 25 => 117 | 26 => 118 | 27 => 119 | 46 => 124 | 47 => 125 | 48 => 126 | 49 => 127 | 50 => 128 | 57 => 130 | n => n, fun | 22 => 23 | 24 => 9 | 25 => 145 | 3 => 3 | 39 => 164 | 0 => 0 | 53 => 185 | 55 => 187 | 4 => 4 | 46 => 179 | 45 => 178 | 50 => 146 | 5 => 5 | 9 => 9 | 66 => 189 | 70 => 193 | 76 => 197 | 77 => 198 | n => n, fun | n => n⟩
theorem Tryz.laysSlF6_f83 : Go.Proofs.SlLaysF.n6 Tryz.prog Tryz.laysSlF6_f83_ren := {
  mixed := by kernel_rfl
  f6 := ⟨Tryz.f83.name, by decide, Tryz.func83.trans (congrArg some (by kernel_rfl))⟩
  f14 := ⟨Tryz.f104.name, by decide, Tryz.func104.trans (congrArg some (by kernel_rfl))⟩
  f15 := Tryz.func105.trans (congrArg some (by kernel_rfl))
  f20 := ⟨Tryz.f112.name, by decide, Tryz.func112.trans (congrArg some (by kernel_rfl))⟩
  f21 := ⟨Tryz.f113.name, by decide, Tryz.func113.trans (congrArg some (by kernel_rfl))⟩
  f22 := ⟨Tryz.f114.name, by decide, Tryz.func114.trans (congrArg some (by kernel_rfl))⟩
  f23 := ⟨Tryz.f115.name, by decide, Tryz.func115.trans (congrArg some (by kernel_rfl))⟩
  f24 := ⟨Tryz.f116.name, by decide, Tryz.func116.trans (congrArg some (by kernel_rfl))⟩
  f25 := ⟨Tryz.f117.name, by decide, Tryz.func117.trans (congrArg some (by kernel_rfl))⟩
  f26 := ⟨Tryz.f118.name, by decide, Tryz.func118.trans (congrArg some (by kernel_rfl))⟩
  f27 := ⟨Tryz.f119.name, by decide, Tryz.func119.trans (congrArg some (by kernel_rfl))⟩
  f28 := Tryz.func120.trans (congrArg some (by kernel_rfl))
  f29 := Tryz.func121.trans (congrArg some (by kernel_rfl))
  f46 := ⟨Tryz.f124.name, by decide, Tryz.func124.trans (congrArg some (by kernel_rfl))⟩
  f47 := Tryz.func125.trans (congrArg some (by kernel_rfl))
  f48 := Tryz.func126.trans (congrArg some (by kernel_rfl))
  f49 := ⟨Tryz.f127.name, by decide, Tryz.func127.trans (congrArg some (by kernel_rfl))⟩
  f50 := ⟨Tryz.f128.name, by decide, Tryz.func128.trans (congrArg some (by kernel_rfl))⟩
  f57 := ⟨Tryz.f130.name, by decide, Tryz.func130.trans (congrArg some (by kernel_rfl))⟩
  t0 := Tryz.underlying0
  a0 := Tryz.isAgg0
  z0 := Tryz.sizeOf0
  v0 := Tryz.zeroValue0
  t3 := Tryz.underlying3
  a3 := Tryz.isAgg3
  z3 := Tryz.sizeOf3
  v3 := Tryz.zeroValue3
  t4 := Tryz.underlying4
  a4 := Tryz.isAgg4
  z4 := Tryz.sizeOf4
  v4 := Tryz.zeroValue4
  t5 := Tryz.underlying5
  a5 := Tryz.isAgg5
  z5 := Tryz.sizeOf5
  v5 := Tryz.zeroValue5
  t9 := Tryz.underlying9
  a9 := Tryz.isAgg9
  z9 := Tryz.sizeOf9
  v9 := Tryz.zeroValue9
  t22 := Tryz.underlying23
  a22 := Tryz.isAgg23
  z22 := Tryz.sizeOf23
  v22 := Tryz.zeroValue23
  a24 := Tryz.isAgg9
  z24 := Tryz.sizeOf9
  t25 := Tryz.underlying145
  a25 := Tryz.isAgg145
  z25 := Tryz.sizeOf145
  v25 := Tryz.zeroValue145
  t39 := Tryz.underlying164
  a39 := Tryz.isAgg164
  z39 := Tryz.sizeOf164
  v39 := Tryz.zeroValue164
  t45 := Tryz.underlying178
  a45 := Tryz.isAgg178
  z45 := Tryz.sizeOf178
  v45 := Tryz.zeroValue178
  t46 := Tryz.underlying179
  a46 := Tryz.isAgg179
  z46 := Tryz.sizeOf179
  v46 := Tryz.zeroValue179
  t50 := Tryz.underlying146
  a50 := Tryz.isAgg146
  z50 := Tryz.sizeOf146
  v50 := Tryz.zeroValue146
  t53 := Tryz.underlying185
  a53 := Tryz.isAgg185
  z53 := Tryz.sizeOf185
  v53 := Tryz.zeroValue185
  t55 := Tryz.underlying187
  a55 := Tryz.isAgg187
  z55 := Tryz.sizeOf187
  v55 := Tryz.zeroValue187
  t66 := Tryz.underlying189
  a66 := Tryz.isAgg189
  z66 := Tryz.sizeOf189
  v66 := Tryz.zeroValue189
  t70 := Tryz.underlying193
  a70 := Tryz.isAgg193
  z70 := Tryz.sizeOf193
  v70 := Tryz.zeroValue193
  t76 := Tryz.underlying197
  a76 := Tryz.isAgg197
  z76 := Tryz.sizeOf197
  v76 := Tryz.zeroValue197
  t77 := Tryz.underlying198
  a77 := Tryz.isAgg198
  z77 := Tryz.sizeOf198
  v77 := Tryz.zeroValue198 }
open Go.RowKit Go.Lib Go.Sort in
theorem Tryz.slices_SortFunc {α : Type} [Inhabited α] (enc : α → Value) (h1 : OneCell enc) (cf : α → α → Int) (hO : SWO (ltOf cf)) (g : Nat) (cb : Array Value) (blk off cap : Nat) (d : Array α) (w : World) (eg : ∀ args w, (callFunc g args).run Tryz.prog w = .ok (.enter g args) w) (hcmp : CmpLays1 Tryz.prog g cb enc cf blk off d.size w) (hH : Holds enc w blk off d) (hblk : blk < w.heap.size) (hsz : d.size < 4611686018427387904) :
    Calls Tryz.prog 83 #[.slice (some ⟨blk, off, none⟩) d.size cap, .func (.func g) #[] cb] w fun e w' =>
      e = .returned (.tuple #[]) ∧ ∃ d' n os, PermIn 0 d.size d d' ∧ SortedIn (ltOf cf) 0 d.size d' ∧ w' = sortWorld enc w blk off n d' os := Any.slices_SortFunc Tryz.laysSlF6_f83 enc h1 cf hO g cb blk off cap d w eg hcmp hH hblk hsz
end Go.Proofs
namespace Go.Proofs.YtlmpnmnfloeoiaaGreat.S
open Go.RowKit Go.Maps
theorem swo_of {α : Type} {lt : α → α → Bool} (T : TO lt) : Sort.SWO (ltOf (cmp3 lt)) := by
  have e : ltOf (cmp3 lt) = lt := by
    funext x y
    exact cmp3_lt lt x y
  rw [e]
  exact ⟨T.irr, fun _ _ _ => T.tr, fun _ _ _ h1 h2 => T.nt h2 h1⟩
theorem sort_out {α : Type} [Inhabited α] {c : α → Value} {T : TypeId} {w : World} {B g cap n : Nat} {xs : List α} {d' : Array α} {os : Array Obj} (h : OwnC c T w B (.slice (some ⟨g, 0, none⟩) xs.length cap) xs) (hd : d'.size = xs.length) :
    OwnC c T (sortWorld c w g 0 n d' os) B (.slice (some ⟨g, 0, none⟩) xs.length cap) d'.toList ∧ Kpt [g] w (sortWorld c w g 0 n d' os) := by
  rcases h.2 with ⟨e, _⟩ | ⟨g', cap', cur, e, hb, hg, h1, h2, h3, h4⟩
  · cases e
  simp only [Value.slice.injEq, Option.some.injEq, Addr.mk.injEq, and_true, true_and] at e
  obtain ⟨rfl, rfl⟩ := e
  have hlt := (Array.getElem?_eq_some_iff.1 hg).1
  have hsz : (Sort.putRow c (Sort.ahead w n) g 0 d').heap.size = w.heap.size := Sort.size_putRow _ _ _ _ _
  have hd2 : d'.toList.length = xs.length := by simpa using hd
  unfold OwnC
  rw [hd2]
  refine ⟨⟨by simp [hd], .inr ⟨g, cap, Sort.putCells c 0 d' cur, rfl, hb, ?_, h1, h2, by simp [Sort.putCells, h3], ?_⟩⟩, ⟨⟨rfl, rfl, rfl, ?_, fun k hk => absurd hk (Nat.not_lt_zero k)⟩, fun b hb' hn => ?_⟩⟩
  · unfold sortWorld
    rw [Sort.heap_grow_old _ _ (by rw [hsz]; exact hlt)]
    show (w.heap.modify g (Sort.onCells (Sort.putCells c 0 d')))[g]? = _
    rw [Array.getElem?_modify, if_pos rfl, hg]
    rfl
  · apply List.ext_getElem?
    intro i
    rw [Nat.mul_one] at h4 ⊢
    by_cases hi : i < xs.length
    · rw [List.getElem?_take_of_lt hi]
      have hic : i < cur.size := by rw [h3]; omega
      simp only [Sort.putCells, Array.getElem?_toList, Array.getElem?_mapIdx, List.getElem?_map]
      rw [Array.getElem?_eq_getElem hic, Array.getElem?_eq_getElem (by omega : i < d'.size)]
      simp [hd, hi]
    · rw [List.getElem?_eq_none (by simp; omega), List.getElem?_eq_none (by simp [hd]; omega)]
  · unfold sortWorld
    rw [Sort.size_grow, hsz]
    omega
  · unfold sortWorld
    rw [Sort.heap_grow_old _ _ (by rw [hsz]; exact hb')]
    show (w.heap.modify g (Sort.onCells (Sort.putCells c 0 d')))[b]? = _
    rw [Array.getElem?_modify, if_neg (fun e => hn (by rw [e]; simp))]
theorem holds_own {α : Type} [Inhabited α] {c : α → Value} {T : TypeId} {w : World} {B g cap : Nat} {xs : List α} (h : OwnC c T w B (.slice (some ⟨g, 0, none⟩) xs.length cap) xs) : Sort.Holds c w g 0 xs.toArray ∧ g < w.heap.size := by
  rcases h.cells with ⟨e, _⟩ | ⟨g', cap', cur, e, hb, hlt, _, _, _, h3, h4, _⟩
  · cases e
  simp only [Value.slice.injEq, Option.some.injEq, Addr.mk.injEq, and_true, true_and] at e
  obtain ⟨rfl, rfl⟩ := e
  refine ⟨fun j hj => ?_, hlt⟩
  have hj' : j < xs.length := by simpa using hj
  rw [Nat.zero_add]
  refine ⟨?_, h4 j⟩
  rw [h3 j _ (List.getElem?_eq_getElem hj')]
  simp [getElem!_pos xs.toArray j hj]
theorem srt_of {α : Type} [Inhabited α] {lt : α → α → Bool} (T : TO lt) {xs : List α} {d' : Array α} (hp : Sort.PermIn 0 xs.toArray.size xs.toArray d') (hs : Sort.SortedIn (ltOf (cmp3 lt)) 0 xs.toArray.size d') (hn : xs.Nodup) : d'.size = xs.length ∧ Srt lt d'.toList ∧ ∀ x, x ∈ d'.toList ↔ x ∈ xs := by
  obtain ⟨hz, _, hperm⟩ := hp
  have hz' : d'.size = xs.length := by simpa using hz
  rw [← hz] at hperm
  have e1 : d'.extract 0 d'.size = d' := Array.extract_size
  have e2 : xs.toArray.extract 0 d'.size = xs.toArray := by rw [hz]; exact Array.extract_size
  rw [e1, e2] at hperm
  have hnd : d'.toList.Nodup := hperm.nodup_iff.2 hn
  refine ⟨hz', ?_, fun x => hperm.mem_iff⟩
  rw [Srt, List.pairwise_iff_getElem]
  intro i j hi hj hij
  have hi' : i < d'.size := by simpa using hi
  have hj' : j < d'.size := by simpa using hj
  have h1 := hs i j (Nat.zero_le _) hij (by rw [← hz]; exact hj')
  rw [getElem!_pos d' j hj', getElem!_pos d' i hi'] at h1
  have h2 : lt d'[j] d'[i] = false := by rw [← h1]; exact (cmp3_lt lt _ _).symm
  show lt d'[i] d'[j] = true
  cases h3 : lt d'[i] d'[j] with
  | true => rfl
  | false =>
    have e := T.tot h3 h2
    have := (List.pairwise_iff_getElem.1 hnd) i j hi hj hij
    exact absurd e this
end Go.Proofs.YtlmpnmnfloeoiaaGreat.S
namespace Go.Proofs.YtlmpnmnfloeoiaaGreat.S
open Go.RowKit Go.Maps
theorem cmpB_eq : ∀ l m : List UInt8, Lib.compareBytes l m = if Op.bytesLess l m = true then -1 else if Op.bytesLess m l = true then 1 else 0
  | [], [] => by simp [Lib.compareBytes, Op.bytesLess]
  | [], _ :: _ => by simp [Lib.compareBytes, Op.bytesLess]
  | _ :: _, [] => by simp [Lib.compareBytes, Op.bytesLess]
  | a :: l, b :: m => by
    have ih := cmpB_eq l m
    unfold Lib.compareBytes Op.bytesLess
    by_cases h1 : a < b
    · simp [h1]
    · by_cases h2 : b < a
      · have hne : a ≠ b := fun e => by subst e; exact UInt8.lt_irrefl _ h2
        simp [h1, h2, hne]
      · have e : a = b := by
          rw [UInt8.lt_iff_toNat_lt] at h1 h2
          exact UInt8.toNat_inj.1 (by omega)
        subst e
        simp [ih, h1]
theorem cmpB_3 (x y : ByteArray) : Lib.compareBytes x.data.toList y.data.toList = cmp3 ltS x y := by
  rw [cmpB_eq]
  unfold cmp3 ltS
  rw [ByteArray.toList_eq, ByteArray.toList_eq]
set_option maxRecDepth 100000 in
theorem cmpS_h (x y : ByteArray) (w : World) : Calls Tryz.prog 106 #[.string x, .string y] w fun e w' => e = .returned (.int .i64 (cmp3 ltS x y)) ∧ w' = w := by
  rw [← cmpB_3]
  go_enter Tryz.func106, Tryz.ntmps106
  go_wp2
  rw [run_callFunc_extern Tryz.func122 (by kernel_rfl) (by kernel_rfl) (by kernel_rfl) (e := Extern.BytealgCompare.compare) (by kernel_rfl), Lib.run_compareString]
  simp only [Result.andThen]
  rw [Oper.upon_value]
  go_wp2
  go_ret
  exact ⟨rfl, rfl⟩
theorem compare_h (x y : ByteArray) (w : World) : Calls Tryz.prog 84 #[.string x, .string y] w fun e w' => e = .returned (.int .i64 (cmp3 ltS x y)) ∧ w' = w := by
  go_enter Tryz.func84, Tryz.ntmps84
  go_wp2_with (go_at_call 106; refine (cmpS_h x y _).mono ?_; rintro e w' ⟨rfl, rfl⟩)
  go_ret
  exact ⟨rfl, rfl⟩
theorem sort_h (B g cap : Nat) (xs : List ByteArray) (w : World) (h : OwnC cS 9 w B (.slice (some ⟨g, 0, none⟩) xs.length cap) xs) (hn : xs.Nodup) (hl : xs.length ≤ 1000000) :
    Calls Tryz.prog 83 #[.slice (some ⟨g, 0, none⟩) xs.length cap, .func (.func 84) #[] #[]] w fun e w' => e = .returned (.tuple #[]) ∧ ∃ R, OwnC cS 9 w' B (.slice (some ⟨g, 0, none⟩) xs.length cap) R ∧ R.length = xs.length ∧ Srt ltS R ∧ (∀ x, x ∈ R ↔ x ∈ xs) ∧ Kpt [g] w w' := by
  have eg : ∀ args w, (callFunc 84 args).run Tryz.prog w = .ok (.enter 84 args) w := enters_of Tryz.func84 (by kernel_rfl) rfl
  obtain ⟨hH, hblk⟩ := holds_own h
  have hcmp : CmpLays1 Tryz.prog 84 #[] cS (cmp3 ltS) g 0 xs.toArray.size w := fun m os dk _ x y => by
    refine (compare_h x y _).mono ?_
    rintro e w' ⟨rfl, rfl⟩
    exact ⟨rfl, 0, #[], by rw [Sort.grow_empty]; rfl⟩
  have hc := Tryz.slices_SortFunc cS (fun _ => rfl) (cmp3 ltS) (swo_of toS) 84 #[] g 0 cap xs.toArray w eg hcmp hH hblk (by simp; omega)
  rw [show xs.toArray.size = xs.length by simp] at hc
  refine hc.mono ?_
  rintro e w' ⟨rfl, d', n, os, hp, hs, rfl⟩
  obtain ⟨s1, s2, s3⟩ := srt_of toS (xs := xs) (by rw [show xs.toArray.size = xs.length by simp]; exact hp) (by rw [show xs.toArray.size = xs.length by simp]; exact hs) hn
  obtain ⟨s4, s5⟩ := sort_out (n := n) (os := os) h s1
  exact ⟨rfl, _, s4, by simpa using s1, s2, s3, s5⟩
set_option maxRecDepth 100000 in
theorem len_0 (w : World) : Calls Tryz.prog 105 #[.int .u64 0] w fun e w' => e = .returned (.int .i64 0) ∧ w' = w := by
  have h64 : ∀ w, Calls Tryz.prog 121 #[.int .u64 0] w fun e w' => e = .returned (.int .i64 0) ∧ w' = w := fun w => by
    go_enter Tryz.func121, Tryz.ntmps121
    go_wp2
    go_ret
    exact ⟨by kernel_rfl, rfl⟩
  go_enter Tryz.func105, Tryz.ntmps105
  go_wp2_with (go_at_call 121; refine (h64 _).mono ?_; rintro e w' ⟨rfl, rfl⟩)
  go_ret
  exact ⟨rfl, rfl⟩
set_option maxRecDepth 100000 in
theorem ins_0 (g : Nat) (w : World) : Calls Tryz.prog 112 #[.slice none 0 0, .int .i64 0, .int .i64 0, .func (.func g) #[] #[]] w fun e w' => e = .returned (.tuple #[]) ∧ w' = w := by
  go_enter Tryz.func112, Tryz.ntmps112
  go_wp2
  refine wp_loop_rounds 1 ?_
  rw [rounds_succ]
  go_wp2
  go_end0
  exact ⟨rfl, rfl⟩
set_option maxRecDepth 100000 in
theorem pdq_0 (g : Nat) (w : World) : Calls Tryz.prog 104 #[.slice none 0 0, .int .i64 0, .int .i64 0, .int .i64 0, .func (.func g) #[] #[]] w fun e w' => e = .returned (.tuple #[]) ∧ w' = w := by
  go_enter Tryz.func104, Tryz.ntmps104
  go_wp2
  refine wp_loop_rounds 1 ?_
  rw [rounds_succ]
  go_wp2_with (go_at_call 112; refine (ins_0 g _).mono ?_; rintro e w' ⟨rfl, rfl⟩)
  refine bodyPost_ret (results_none rfl _ _ _) rfl ?_
  exact ⟨rfl, rfl⟩
set_option maxRecDepth 100000 in
theorem sort_0 (g : Nat) (w : World) : Calls Tryz.prog 83 #[.slice none 0 0, .func (.func g) #[] #[]] w fun e w' => e = .returned (.tuple #[]) ∧ w' = w := by
  go_enter Tryz.func83, Tryz.ntmps83
  go_wp2_with first | (go_at_call 105; refine (len_0 _).mono ?_; rintro e w' ⟨rfl, rfl⟩) | (go_at_call 104; refine (pdq_0 g _).mono ?_; rintro e w' ⟨rfl, rfl⟩)
  go_end0
  exact ⟨rfl, rfl⟩
set_option maxHeartbeats 1000000 in
set_option maxRecDepth 100000 in
theorem compact_h (p : Option Addr) (cap : Nat) (ok : Nat → Prop) (xs : List ByteArray) (w : World) (hr : RdC cS ok w (.slice p xs.length cap) xs) (hn : xs.Nodup) (hl : xs.length ≤ 1000000) :
    Calls Tryz.prog 85 #[.slice p xs.length cap] w fun e w' => e = .returned (.slice p xs.length cap) ∧ ∃ n, w' = w.drewN n := by
  have HR := Lib.hid hr
  have HN := Lib.hid hn
  clear hr hn
  by_cases h2 : xs.length < 2
  · have h2' : (xs.length : Int) < 2 := by omega
    go_enter Tryz.func85, Tryz.ntmps85
    go_wp2_with fail
    go_ret
    exact ⟨rfl, 0, rfl⟩
  · have h2' : ¬ (xs.length : Int) < 2 := by omega
    go_enter Tryz.func85, Tryz.ntmps85
    go_wp2_with fail
    go_loopw [3] (fun x wr => ∃ j n : Nat, x = .int .i64 ((j : Int) + 1) ∧ j + 1 ≤ xs.length ∧ Hid (wr = w.drewN n)) (fun x _ => xs.length - (intOf x).toNat)
    case atStart => exact ⟨0, 0, rfl, by omega, Lib.hid rfl⟩
    case round =>
      obtain ⟨j, n, rfl, hi, hw⟩ := hrel
      by_cases hlt : j + 1 < xs.length
      · have hlt' : (j : Int) + 1 < (xs.length : Int) := by omega
        have i0 : (0 : Int) ≤ (j : Int) + 1 := by omega
        have j0 : (0 : Int) ≤ (j : Int) := by omega
        have j1 : (j : Int) < (xs.length : Int) := by omega
        have e1 : (j : Int) + 1 - 1 = (j : Int) := by omega
        have e2 : ((j : Int) + 1).toNat = j + 1 := by omega
        have hne : xs ≠ [] := by rintro rfl; simp at hlt
        obtain ⟨b, off, rfl, -, hbl, hc⟩ := HR.out.at hne
        obtain ⟨x, hx⟩ : ∃ x, xs[j]? = some x := ⟨_, List.getElem?_eq_getElem (by omega)⟩
        obtain ⟨y, hy⟩ : ∃ y, xs[j + 1]? = some y := ⟨_, List.getElem?_eq_getElem (by omega)⟩
        have cx : wr.cell? ⟨b, off + j, none⟩ = some (.string x) := by rw [hw.out]; exact hc j x hx
        have cy : wr.cell? ⟨b, off + (j + 1), none⟩ = some (.string y) := by rw [hw.out]; exact hc (j + 1) y hy
        have hxy : y ≠ x := by
          intro e
          subst e
          obtain ⟨a1, a2⟩ := List.getElem?_eq_some_iff.1 hx
          obtain ⟨b1, b2⟩ := List.getElem?_eq_some_iff.1 hy
          exact (List.pairwise_iff_getElem.1 HN.out) j (j + 1) a1 b1 (by omega) (a2.trans b2.symm)
        have ht := txt_ne hxy
        clear hc hx hy hxy hne
        go_wp2_with fail
        go_quiet (fail)
        go_wp2_with fail
        go_roundw
        case rel => exact ⟨j + 1, n + nq, by go_num, by omega, Lib.hid (by rw [hw.out]; simp [World.drewN, Nat.add_assoc])⟩
        case measure => simp [intOf]; omega
      · have hlt' : ¬ (j : Int) + 1 < (xs.length : Int) := by omega
        go_wp2_with fail
        go_ret
        exact ⟨rfl, n, hw.out⟩
end Go.Proofs.YtlmpnmnfloeoiaaGreat.S
namespace Go.Proofs.YtlmpnmnfloeoiaaGreat.R
open Go.RowKit Go.Proofs.YtlmpnmnfloeoiaaGreat.D Go.Proofs.YtlmpnmnfloeoiaaGreat.O Go.Proofs.YtlmpnmnfloeoiaaGreat.A Go.Maps
abbrev cC : Cl → Value := fun x => .agg #[.string x.1, .string x.2]
def qC (x : Cl) : Lit := .string (keyBytes [.string x.1.data.toList, .string x.2.data.toList])
def okC (x : Cl) : Prop := x.1.size ≤ maxLen ∧ x.2.size ≤ maxLen
theorem laid_out : laidOutB Tryz.prog = true := by kernel_rfl
theorem wide_call : (match Tryz.prog.underlying 102 with | some (.array _ _) | some (.struct _) => true | _ => false) = true := by kernel_rfl
theorem key_type : Tryz.prog.keyType 102 = true := by kernel_rfl
theorem cells_s : Tryz.prog.cellsOf 9 = 1 := by kernel_rfl
theorem cells_c : Tryz.prog.cellsOf 102 = 2 := by kernel_rfl
theorem some_types : ∃ d, Tryz.prog.types.size = d + 1 := Nat.exists_eq_succ_of_ne_zero (Nat.ne_of_gt (Nat.lt_of_le_of_lt (Nat.zero_le _) (of_decide_eq_true (by kernel_rfl : decide (0 < Tryz.prog.types.size) = true))))
section
variable {P : Program} {tc ts : TypeId} {fs : Array Field} {f g : Field}
theorem lits_s {d : Nat} {s : ByteArray} (h9 : P.underlying ts = some .string) (h : s.size ≤ maxLen) : P.keyLits (d + 1) ts [.string s] = some [.string s.data.toList] := by
  unfold Program.keyLits
  rw [h9]
  simp [h]
theorem lits_inv {d : Nat} {cs : List Value} {l : List Lit} (h9 : P.underlying ts = some .string) (h : P.keyLits d ts cs = some l) : ∃ s : ByteArray, cs = [.string s] ∧ l = [.string s.data.toList] ∧ s.size ≤ maxLen := by
  cases d with
  | zero => simp [Program.keyLits] at h
  | succ d =>
    obtain ⟨s, rfl, rfl⟩ := keyLits_string' h9 h
    refine ⟨s, rfl, rfl, ?_⟩
    unfold Program.keyLits at h
    rw [h9] at h
    simp only at h
    split at h
    · assumption
    · cases h
theorem lits_c {d : Nat} {a b : ByteArray} (hc : P.underlying tc = some (.struct fs)) (h9 : P.underlying ts = some .string) (hfs : fs = #[f, g]) (hf : f.type = ts ∧ f.offset = 0 ∧ (f.name != "_") = true) (hg : g.type = ts ∧ g.offset = 1 ∧ (g.name != "_") = true) (n1 : P.cellsOf ts = 1) (n2 : P.cellsOf tc = 2) (ha : a.size ≤ maxLen) (hb : b.size ≤ maxLen) : P.keyLits (d + 1 + 1) tc [.string a, .string b] = some [.string a.data.toList, .string b.data.toList] := by
  subst hfs
  unfold Program.keyLits
  rw [hc]
  simp [n1, n2, hf.1, hf.2.1, hg.1, hg.2.1, lits_s h9 ha, lits_s h9 hb]
  exact ⟨by simpa using hf.2.2, by simpa using hg.2.2⟩
theorem lits_cinv {d : Nat} {cs : List Value} {l : List Lit} (hc : P.underlying tc = some (.struct fs)) (h9 : P.underlying ts = some .string) (hfs : fs = #[f, g]) (hf : f.type = ts ∧ f.offset = 0) (hg : g.type = ts ∧ g.offset = 1) (n1 : P.cellsOf ts = 1) (n2 : P.cellsOf tc = 2) (h : P.keyLits d tc cs = some l) : ∃ a b : ByteArray, cs = [.string a, .string b] ∧ l = [.string a.data.toList, .string b.data.toList] ∧ a.size ≤ maxLen ∧ b.size ≤ maxLen := by
  subst hfs
  cases d with
  | zero => simp [Program.keyLits] at h
  | succ d =>
    unfold Program.keyLits at h
    rw [hc] at h
    simp only at h
    split at h
    · rename_i hl
      obtain ⟨hl, -⟩ := hl
      rw [n2] at hl
      match cs, hl with
      | [u, v], _ =>
        simp [hf.1, hf.2, hg.1, hg.2, n1, Option.bind_eq_some_iff] at h
        obtain ⟨la, ha, L, ⟨lb, hb, rfl⟩, rfl⟩ := h
        obtain ⟨a, e1, rfl, h1⟩ := lits_inv h9 ha
        obtain ⟨b, e2, rfl, h2⟩ := lits_inv h9 hb
        simp only [List.cons.injEq, and_true] at e1 e2
        subst e1 e2
        exact ⟨a, b, rfl, rfl, h1, h2⟩
    · cases h
theorem keyC_inv' (hw : (match P.underlying tc with | some (.array _ _) | some (.struct _) => true | _ => false) = true) (hc : P.underlying tc = some (.struct fs)) (h9 : P.underlying ts = some .string) (hfs : fs = #[f, g]) (hf : f.type = ts ∧ f.offset = 0) (hg : g.type = ts ∧ g.offset = 1) (n1 : P.cellsOf ts = 1) (n2 : P.cellsOf tc = 2) {v : Value} {kl : Lit} (h : keyOf P tc v = some kl) : ∃ x : Cl, v = cC x ∧ kl = qC x ∧ okC x := by
  obtain ⟨xs, L, rfl, hL, rfl⟩ := keyOf_top hw h
  obtain ⟨a, b, e, rfl, h1, h2⟩ := lits_cinv hc h9 hfs hf hg n1 n2 hL
  refine ⟨(a, b), ?_, rfl, h1, h2⟩
  obtain ⟨xs⟩ := xs
  simp only at e
  subst e
  rfl
theorem keyC_mk' (hc : P.underlying tc = some (.struct fs)) (h9 : P.underlying ts = some .string) (hfs : fs = #[f, g]) (hf : f.type = ts ∧ f.offset = 0 ∧ (f.name != "_") = true) (hg : g.type = ts ∧ g.offset = 1 ∧ (g.name != "_") = true) (n1 : P.cellsOf ts = 1) (n2 : P.cellsOf tc = 2) (ht : P.keyType tc = true) (hd : ∃ d, P.types.size = d + 1) {x : Cl} (h : okC x) : keyOf P tc (cC x) = some (qC x) := by
  unfold keyOf
  rw [hc]
  obtain ⟨d, hd⟩ := hd
  have hfm : (cC x).formed P tc = true := by simp [Value.formed, hc, n2]
  simp only [ht, hfm, Bool.and_self, if_true]
  rw [show (cC x).cells.toList = [.string x.1, .string x.2] from rfl, hd, lits_c hc h9 hfs hf hg n1 n2 h.1 h.2]
  rfl
end
set_option maxRecDepth 100000 in
theorem keyC_inv {v : Value} {kl : Lit} (h : keyOf Tryz.prog 102 v = some kl) : ∃ x : Cl, v = cC x ∧ kl = qC x ∧ okC x := keyC_inv' (P := Tryz.prog) (tc := 102) (ts := 9) wide_call Tryz.underlying102 Tryz.underlying9 rfl ⟨rfl, rfl⟩ ⟨rfl, rfl⟩ cells_s cells_c h
set_option maxRecDepth 100000 in
theorem keyC_mk {x : Cl} (h : okC x) : keyOf Tryz.prog 102 (cC x) = some (qC x) := keyC_mk' (P := Tryz.prog) (tc := 102) (ts := 9) Tryz.underlying102 Tryz.underlying9 rfl ⟨rfl, rfl, by decide⟩ ⟨rfl, rfl, by decide⟩ cells_s cells_c key_type some_types h
theorem row_call : (102 : TypeId) < Tryz.prog.types.size := of_decide_eq_true (by kernel_rfl)
theorem type_at : Tryz.prog.keyTypeAt 2 102 = true := by kernel_rfl
set_option maxRecDepth 100000 in
theorem lawC : Keyed Tryz.prog 102 := Keyed.of_law (deep_law_laid laid_out (m := 2) (by omega) row_call type_at wide_call)
theorem kdC : S.Kd 102 cC qC okC where
  law := lawC
  key h := keyC_mk h
  inv h := keyC_inv h
  inj {x y} hx hy h := by
    have h1 := keyC_mk hx
    have h2 := keyC_mk hy
    rw [h] at h1
    have := lawC.inj h1 h2
    simp only [Value.agg.injEq, Array.mk.injEq, List.cons.injEq, Value.string.injEq, and_true] at this
    exact Prod.ext this.1 this.2
  isKey h := lawC.key (keyC_mk h)
end Go.Proofs.YtlmpnmnfloeoiaaGreat.R
namespace Go.Proofs.YtlmpnmnfloeoiaaGreat.R
open Go.RowKit Go.Proofs.YtlmpnmnfloeoiaaGreat.D Go.Proofs.YtlmpnmnfloeoiaaGreat.O Go.Proofs.YtlmpnmnfloeoiaaGreat.A Go.Maps
abbrev smk : Sg → Value := fun s => .agg #[.string s.1, .string s.2.1, .string s.2.2.1, .bool s.2.2.2.1, .bool s.2.2.2.2]
theorem smk_inj : ∀ u v, smk u = smk v → u = v := fun u v h => by
  simp only [Value.agg.injEq, Array.mk.injEq, List.cons.injEq, Value.string.injEq, Value.bool.injEq, and_true] at h
  exact Prod.ext h.1 (Prod.ext h.2.1 (Prod.ext h.2.2.1 (Prod.ext h.2.2.2.1 h.2.2.2.2)))
abbrev Lf (w : World) (b : Nat) (L : List Cl) : Prop := S.Mv 102 qC okC smk (fun x s => s.2.2.1 = keyC x) w b L
set_option maxHeartbeats 4000000 in
set_option maxRecDepth 100000 in
theorem keys_h (mb : Nat) (L : List Cl) (w : World) (h : Lf w mb L) (hn : (L.map keyC).Nodup) (hl : L.length ≤ 10000) :
    Calls Tryz.prog 45 #[.map (some mb)] w fun e w' => ∃ v R, e = .returned v ∧ S.OwnC S.cS 9 w' w.heap.size v R ∧ S.Srt S.ltS R ∧ (∀ x, x ∈ R ↔ x ∈ L.map keyC) ∧ Below w.heap.size w w' := by
  have hmb := h.lt
  have HL := Lib.hid h
  have HNd := Lib.hid hn
  clear h hn
  go_enter Tryz.func45, Tryz.ntmps45
  go_wp2_with (at_range; refine S.wp_rangeV kdC Tryz.underlying95 rfl _ rfl mb L rfl HL.out ?_)
  intro w3 n0 hrg hgr hsz
  try go_frame
  have HRG := Lib.hid hrg
  have HB3 : Hid (Below w.heap.size w w3) := Lib.hid ((S.Kpt.of_grown (S := []) hgr (fun g e => by cases e)).below (fun x hx => by cases hx) (Nat.le_refl _))
  obtain ⟨r, hr⟩ : ∃ r, r = w.heap.size := ⟨_, rfl⟩
  have hWr : w.heap.size ≤ r := by omega
  have hrm : r ≠ mb := by omega
  rw [← hr] at HRG ⊢
  clear hrg hgr hsz hr
  go_wp2_with fail
  go_loopw [3] (fun v wr => ∃ (R : List Cl) (n : Nat), Hid (S.Rv 102 qC okC smk (fun x s => s.2.2.1 = keyC x) wr mb r L R n) ∧ Hid (S.OwnC S.cS 9 wr w.heap.size v (R.map keyC)) ∧ v.ownBlock ≠ some r ∧ Hid (Below w.heap.size w wr)) (fun _ wr => wr.rangeLeft mb r)
  case atStart => exact ⟨[], n0, HRG, Lib.hid (S.OwnC.nil _ _), by simp [Value.ownBlock], HB3⟩
  case round =>
    clear HRG HB3
    obtain ⟨R, n, HRG, HO, hvr, HB⟩ := hrel
    have HN := Lib.hid HRG.out.left
    obtain ⟨va, vn, vk, hv⟩ := HO.out.slice
    subst hv
    go_wp2_with (at_next; refine S.wp_nextV kdC smk_inj rfl _ rfl mb r n L R rfl HRG.out ?_ ?_)
    · intro hR
      have HR := Lib.hid hR
      clear hR
      go_wp2_with fail
      have hLn := HL.out.nodup
      have hRl : R.length = L.length := S.nodup_len_eq HRG.out.nodup hLn HR.out
      have hRk : (R.map keyC).Nodup := (List.Perm.nodup_iff ((List.perm_ext_iff_of_nodup HRG.out.nodup hLn).2 HR.out |>.map keyC)).2 HNd.out
      have hkl : (R.map keyC).length ≤ 1000000 := by rw [List.length_map]; omega
      have HM : Hid (∀ x, x ∈ R.map keyC ↔ x ∈ L.map keyC) := Lib.hid (fun x => by simp only [List.mem_map, HR.out])
      obtain ⟨xs, hxs⟩ : ∃ x, R.map keyC = x := ⟨_, rfl⟩
      rw [hxs] at HO HM hRk hkl
      have HRK := Lib.hid hRk
      clear HR HRG hLn hRl hxs hRk HN
      rcases HO.out.cells with ⟨e, rfl⟩ | ⟨g, cap, cur0, e, hBg, hlg, -, -⟩
      · simp only [Value.slice.injEq] at e
        obtain ⟨rfl, rfl, rfl⟩ := e
        refine (S.sort_0 _ wr).mono ?_
        rintro e w5 ⟨rfl, rfl⟩
        go_wp2_with fail
        refine (S.compact_h none 0 _ [] _ (S.RdC.nil (fun _ => True) _) List.nodup_nil (by simp)).mono ?_
        rintro e w6 ⟨rfl, nd, rfl⟩
        go_wp2_with fail
        go_ret
        exact ⟨_, [], rfl, S.OwnC.nil _ _, List.Pairwise.nil, HM.out, HB.out.trans (S.below_drewN _ _ _)⟩
      · simp only [Value.slice.injEq] at e
        obtain ⟨rfl, rfl, rfl⟩ := e
        refine (S.sort_h w.heap.size g vk xs wr HO.out HRK.out hkl).mono ?_
        rintro e w5 ⟨rfl, R', s1, s2, s3, s4, s5⟩
        have S1 := Lib.hid s1
        have S5 : Hid (Below w.heap.size w w5) := Lib.hid (HB.out.trans (s5.below (fun y hy => by rw [List.mem_singleton.1 hy]; exact hBg) HB.out.size))
        have S4 : Hid (∀ x, x ∈ R' ↔ x ∈ L.map keyC) := Lib.hid (fun x => (s4 x).trans (HM.out x))
        have S3 := Lib.hid s3
        rw [← s2] at S1 ⊢
        have hl2 : R'.length ≤ 1000000 := by omega
        clear s1 s2 s3 s4 s5 HO HB HM HRK
        go_wp2_with fail
        refine (S.compact_h _ vk _ R' _ S1.out.rd (S.Srt.nodup S.toS S3.out) hl2).mono ?_
        rintro e w6 ⟨rfl, nd, hw6⟩
        have HO6 : Hid (S.OwnC S.cS 9 w6 w.heap.size (.slice (some ⟨g, 0, none⟩) R'.length vk) R') := Lib.hid (by rw [hw6]; exact S1.out.kpt (S.Kpt.of_below (S := []) (S.below_drewN _ _ _)) (by simp))
        have HB6 : Hid (Below w.heap.size w w6) := Lib.hid (by rw [hw6]; exact S5.out.trans (S.below_drewN _ _ _))
        clear hw6 S1 S5
        go_wp2_with fail
        go_ret
        exact ⟨_, R', rfl, HO6.out, S3.out, S4.out, HB6.out⟩
    · intro x s w4 n4 hox hxL hxR hV hrg4 hlt4 hg4 hsz4 hen
      have hRl : R.length ≤ L.length := HRG.out.nodup.length_le_of_subset HRG.out.sub
      have k4 : S.Kpt [r] wr w4 := .of_grown hg4 (fun z e => by cases e; exact .inl (by simp))
      have HO4 := Lib.hid (HO.out.kpt k4 (fun z e => by simp; rintro rfl; exact hvr e))
      have HB4 : Hid (Below w.heap.size w w4) := Lib.hid (HB.out.trans (k4.below (fun y hy => by rw [List.mem_singleton.1 hy]; exact hWr) HB.out.size))
      have HRG4 := Lib.hid hrg4
      have HV := Lib.hid hV
      have hrl := hrg4.lt
      clear hrg4 hg4 hsz4 k4 HRG HO HB hox hxL hxR hV
      have HO5 := Lib.hid ((HO4.out.alloc (.cells #[.string s.1, .string s.2.1, .string s.2.2.1, .bool s.2.2.2.1, .bool s.2.2.2.2] 104)).alloc (.cells #[.string s.2.2.1] 9))
      have hx0 := (S.rd_one (c := S.cS) (x := s.2.2.1) (heap_alloc_new (w4.alloc (.cells #[.string s.1, .string s.2.1, .string s.2.2.1, .bool s.2.2.2.1, .bool s.2.2.2.2] 104)) (.cells #[.string s.2.2.1] 9)) rfl)
      rw [World.size_alloc] at hx0
      have HX := Lib.hid hx0
      clear hx0
      have hrk : (R.map keyC).length ≤ 100000 := by rw [List.length_map]; omega
      have HMP : Hid ((R ++ [x]).map keyC = R.map keyC ++ [s.2.2.1]) := Lib.hid (by rw [List.map_append, HV.out]; rfl)
      obtain ⟨rs, hrs⟩ : ∃ y, R.map keyC = y := ⟨_, rfl⟩
      rw [hrs] at HO5 hrk HMP
      have hs4 := HB4.out.size
      clear hrs HO4
      dsimp only [smk, cC] at hen ⊢
      go_wp2_with (at_builtin; refine S.wp_appC S.infS (fun _ => rfl) rfl _ _ rfl w.heap.size _ rs rfl HO5.out (fun _ => True) _ [s.2.2.1] rfl HX.out (by simp; omega) (by simp; omega) ?_)
      intro v' w6 ho6 hg6 hl6
      have k5 : S.Kpt [] w4 ((w4.alloc (.cells #[.string s.1, .string s.2.1, .string s.2.2.1, .bool s.2.2.2.1, .bool s.2.2.2.2] 104)).alloc (.cells #[.string s.2.2.1] 9)) := (S.Kpt.alloc [] _ _).trans (S.Kpt.alloc [] _ _) (fun x hx => by cases hx)
      have k6 : S.Kpt (Value.slice va vn vk).ownBlock.toList w4 w6 := (k5.mono (S' := (Value.slice va vn vk).ownBlock.toList) (fun x hx => by cases hx)).trans (.of_grown (S := (Value.slice va vn vk).ownBlock.toList) hg6 (fun z e => .inl (by rw [e]; simp))) (fun y hy => .inl hy)
      have hlt6 := (HO5.out.lt)
      have hv6 : v'.ownBlock ≠ some r := by
        rcases hl6 with e | e
        · rw [e]; exact hvr
        · rw [e]; simp; omega
      have hmbl := hmb
      have HO6 : Hid (S.OwnC S.cS 9 w6 w.heap.size v' ((R ++ [x]).map keyC)) := Lib.hid (by rw [HMP.out]; exact ho6)
      have HRG6 := Lib.hid (HRG4.out.kpt k6 (by intro hx; have := (hlt6 mb (by simpa using hx)).1; omega) (by intro hx; exact hvr (by simpa using hx)))
      have HB6 : Hid (Below w.heap.size w w6) := Lib.hid (HB4.out.trans (k6.below (fun y hy => (hlt6 y (by simpa using hy)).1) hs4))
      clear ho6 hg6 hl6 k5 k6 HO5 HX HRG4 hen hlt6 HMP
      go_wp2_with fail
      go_roundw
      case rel => exact ⟨R ++ [x], n4, HRG6, HO6, hv6, HB6⟩
      case measure => rw [HN.out, HRG6.out.left]; exact hlt4
end Go.Proofs.YtlmpnmnfloeoiaaGreat.R
namespace Go.Proofs.YtlmpnmnfloeoiaaGreat.R
open Go.RowKit Go.Proofs.YtlmpnmnfloeoiaaGreat.D Go.Proofs.YtlmpnmnfloeoiaaGreat.O Go.Proofs.YtlmpnmnfloeoiaaGreat.A
theorem zero_size (z : Array Value) (n : Nat) : (Builtin.zeroCells z n).size = n * z.size := by
  simp [Builtin.zeroCells]
set_option maxHeartbeats 1000000 in
set_option maxRecDepth 100000 in
theorem grow_0 (n : Nat) (w : World) (hn : n ≤ 1000000) :
    Calls Tryz.prog 80 #[.slice none 0 0, .int .i64 (n : Int)] w fun e w' => ∃ p c, e = .returned (.slice p 0 c) ∧ S.OwnC S.cS 9 w' w.heap.size (.slice p 0 c) [] ∧ Below w.heap.size w w' := by
  by_cases h0 : n = 0
  · subst h0
    go_enter Tryz.func80, Tryz.ntmps80
    go_wp2_with fail
    go_ret
    exact ⟨_, _, rfl, S.OwnC.nil _ _, Below.refl _ _⟩
  · obtain ⟨hi1, hu, hz, hbb⟩ := S.infS
    obtain ⟨i0, hi, hz0, hz1, hz2⟩ := info_parts hi1
    have hpos : (0 : Int) < (n : Int) := by omega
    have hneg : ¬ (n : Int) < 0 := by omega
    have hap : ∀ W ty, (Builtin.append_ #[23, 3] ty #[.slice none 0 0, .int .i64 (n : Int)]).run Tryz.prog W = .ok _ _ := fun W ty => Lib.run_append_nil_zeros W 23 3 ty 9 i0 _ .i64 .i64 hu Tryz.underlying3 hi hz0 n (by omega) (by rw [hz1]; omega) (by omega) (by
      have : n * i0.bytes ≤ 1000000 * 1000 := Nat.mul_le_mul hn (by omega)
      omega)
    have hge := grownCap_ge
    go_enter Tryz.func80, Tryz.ntmps80
    go_wp2_with (at_builtin; refine Lib.wpList_append_run _ rfl _ _ _ _ rfl _ _ rfl rfl _ _ (hap _ _) ?_)
    go_ret
    refine ⟨_, _, rfl, ⟨by simp, .inr ⟨w.heap.size, _, _, rfl, Nat.le_refl _, heap_alloc_new w _, Nat.zero_le _, grownCap_le_maxLen _ _ _ _ (by unfold maxLen; omega), ?_, by simp⟩⟩, (below_alR _ _).drew⟩
    have h1 := grownCap_ge w n 0 9
    simp [zero_size]
    omega
set_option maxHeartbeats 4000000 in
set_option maxRecDepth 100000 in
theorem concat_h (gb n1 c1 n2 c2 : Nat) (p1 p2 : Option Addr) (xs ys : List ByteArray) (ok : Nat → Prop) (w : World) (hX : w.heap[gb]? = some (.cells #[.slice p1 n1 c1, .slice p2 n2 c2] 23 (0, 0)))
    (h1 : RdX 1 (sP strC) ok w (.slice p1 n1 c1) xs) (h2 : RdX 1 (sP strC) ok w (.slice p2 n2 c2) ys) (hl : xs.length + ys.length ≤ 1000000) :
    Calls Tryz.prog 42 #[.slice (some ⟨gb, 0, none⟩) 2 2] w fun e w' => ∃ p c, e = .returned (.slice p (xs ++ ys).length c) ∧ S.OwnC S.cS 9 w' w.heap.size (.slice p (xs ++ ys).length c) (xs ++ ys) ∧ Below w.heap.size w w' := by
  have en1 : n1 = xs.length := by obtain ⟨_, _, e, _⟩ := h1; simp only [Value.slice.injEq] at e; exact e.2.1
  have en2 : n2 = ys.length := by obtain ⟨_, _, e, _⟩ := h2; simp only [Value.slice.injEq] at e; exact e.2.1
  have gl := (Array.getElem?_eq_some_iff.1 hX).1
  have x0 : w.cell? ⟨gb, 0, none⟩ = some (.slice p1 n1 c1) := by simp [World.cell?, hX]
  have x1 : w.cell? ⟨gb, 1, none⟩ = some (.slice p2 n2 c2) := by simp [World.cell?, hX]
  have HX0 := Lib.hid x0
  have HX1 := Lib.hid x1
  have H1 := Lib.hid h1
  have H2 := Lib.hid h2
  have HN := Lib.hid (show n1 + n2 ≤ 1000000 by omega)
  have HE1 := Lib.hid en1
  have HE2 := Lib.hid en2
  have HLN := Lib.hid hl
  clear h1 h2 hX x0 x1 hl en1 en2
  go_enter Tryz.func42, Tryz.ntmps42
  go_wp2_with fail
  go_loopw [3, 11] (fun s3 s11 wr => ∃ i n : Nat, s11 = .int .i64 (i : Int) ∧ s3 = .int .i64 (n : Int) ∧ wr = w ∧ ((i = 0 ∧ 0 = n) ∨ (i = 1 ∧ n1 = n) ∨ (i = 2 ∧ n1 + n2 = n))) (fun _ x _ => 2 - (intOf x).toNat)
  case atStart => exact ⟨0, 0, rfl, rfl, rfl, .inl ⟨rfl, rfl⟩⟩
  case round =>
    obtain ⟨i, n, rfl, rfl, hwr, hc⟩ := hrel
    have e := hwr.symm
    subst e
    have hn := HN.out
    rcases hc with ⟨rfl, rfl⟩ | ⟨rfl, rfl⟩ | ⟨rfl, rfl⟩
    · have x0 := HX0.out
      have z0 : (0 : Int) ≤ (n1 : Int) := by omega
      go_wp2_with fail
      go_roundw
      case rel => exact ⟨1, n1, rfl, by go_num, by first | rfl | trivial, .inr (.inl ⟨rfl, rfl⟩)⟩
      case measure => simp [intOf]
    · have x1 := HX1.out
      have z0 : (0 : Int) ≤ (n1 : Int) := by omega
      have z1 : (0 : Int) ≤ (n1 : Int) + (n2 : Int) := by omega
      go_wp2_with fail
      go_roundw
      case rel => exact ⟨2, n1 + n2, rfl, by go_num, by first | rfl | trivial, .inr (.inr ⟨rfl, rfl⟩)⟩
      case measure => simp [intOf]
    · go_wp2_with fail
      refine (grow_0 (n1 + n2) w (by omega)).mono ?_
      rintro e w1 ⟨pg, cg, rfl, ho, hb⟩
      have HO := Lib.hid ho
      have HB := Lib.hid hb
      clear ho hb
      go_wp2_with fail
      go_loopw [6, 27] (fun s6 s27 wr => ∃ (i : Nat) (L : List ByteArray), s27 = .int .i64 (i : Int) ∧ Hid (S.OwnC S.cS 9 wr w.heap.size s6 L) ∧ Hid (Below w.heap.size w wr) ∧ ((i = 0 ∧ [] = L) ∨ (i = 1 ∧ xs = L) ∨ (i = 2 ∧ xs ++ ys = L))) (fun _ x _ => 2 - (intOf x).toNat)
      case atStart => exact ⟨0, [], rfl, HO, HB, .inl ⟨rfl, rfl⟩⟩
      case round =>
        clear HO HB
        obtain ⟨i, L, rfl, HO, HB, hc⟩ := hrel
        have hsz := HB.out.size
        rcases hc with ⟨rfl, rfl⟩ | ⟨rfl, rfl⟩ | ⟨rfl, rfl⟩
        · have x0 := (HB.out.cell gl).trans HX0.out
          have R1 := Lib.hid (H1.out.any (sP.grow _) HB.out)
          go_wp2_with (at_builtin; refine wp_appR rfl _ _ rfl w.heap.size _ [] rfl HO.out ok _ xs rfl R1.out (by have := HLN.out; simp; omega) hsz ?_)
          intro v3 w3 ho3 hg3 hl3
          have k3 : S.Kpt _ wr w3 := .of_grown (S := _) hg3 (fun g e => .inl (by rw [e]; exact List.mem_singleton.2 rfl : g ∈ (Option.toList (Value.ownBlock _))))
          have HO3 : Hid (S.OwnC S.cS 9 w3 w.heap.size v3 xs) := Lib.hid (by simpa using ho3)
          have HB3 : Hid (Below w.heap.size w w3) := Lib.hid (HB.out.trans (k3.below (fun x hx => (HO.out.lt x (by simpa using hx)).1) hsz))
          clear ho3 hg3 hl3 k3
          go_wp2_with fail
          go_roundw
          case rel => exact ⟨1, xs, rfl, HO3, HB3, .inr (.inl ⟨rfl, rfl⟩)⟩
          case measure => simp [intOf]
        · have x1 := (HB.out.cell gl).trans HX1.out
          have R2 := Lib.hid (H2.out.any (sP.grow _) HB.out)
          go_wp2_with (at_builtin; refine wp_appR rfl _ _ rfl w.heap.size _ xs rfl HO.out ok _ ys rfl R2.out (by have := HLN.out; omega) hsz ?_)
          intro v3 w3 ho3 hg3 hl3
          have k3 : S.Kpt _ wr w3 := .of_grown (S := _) hg3 (fun g e => .inl (by rw [e]; exact List.mem_singleton.2 rfl : g ∈ (Option.toList (Value.ownBlock _))))
          have HO3 : Hid (S.OwnC S.cS 9 w3 w.heap.size v3 (xs ++ ys)) := Lib.hid ho3
          have HB3 : Hid (Below w.heap.size w w3) := Lib.hid (HB.out.trans (k3.below (fun x hx => (HO.out.lt x (by simpa using hx)).1) hsz))
          clear ho3 hg3 hl3 k3
          go_wp2_with fail
          go_roundw
          case rel => exact ⟨2, xs ++ ys, rfl, HO3, HB3, .inr (.inr ⟨rfl, rfl⟩)⟩
          case measure => simp [intOf]
        · go_wp2_with fail
          go_ret
          obtain ⟨pv, kv, hv, -⟩ := HO.out.rd.form
          subst hv
          exact ⟨_, _, rfl, HO.out, HB.out⟩
end Go.Proofs.YtlmpnmnfloeoiaaGreat.R
