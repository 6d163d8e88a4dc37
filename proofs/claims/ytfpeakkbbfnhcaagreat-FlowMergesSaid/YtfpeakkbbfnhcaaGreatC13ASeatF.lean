/- Texts that the proof is made of, joined. No condition. -/
import Derived.Test.YtfpeakkbbfnhcaaGreatC138
import Derived.Deep.DeepCutAuto
import Derived.Test.YtfpeakkbbfnhcaaGreatC13H
set_option linter.unusedVariables false
set_option linter.unusedSimpArgs false
set_option maxRecDepth 100000
set_option maxHeartbeats 16000000
namespace Go.Proofs.YtfpeakkbbfnhcaaGreat.A
open Go.RowKit Go.Proofs.YtfpeakkbbfnhcaaGreat.D Go.Proofs.YtfpeakkbbfnhcaaGreat.O
def faC : Nat -> List Nat
 | 6 => [5,6]
 | 7 => [2,6,7]
 | i => [i]
def faL : Nat -> List (Nat × Nat)
 | 1 => [(50,0)]
 | 2 => [(51,1)]
 | 4 => [(53,3)]
 | 5 => [(54,4)]
 | 6 => [(55,5)]
 | 7 => [(52,2),(56,6)]
 | _ => []
def faF (k1 kb : Nat) : Nat -> (Nat -> Tk) -> World -> Prop
 | 0,g,_ => (g 0).1 = .agg #[.int .i64 1,.string ⟨#[]⟩]
 | 1,g,_ => (g 1).1 = .agg #[.string ⟨#[99,111,117,110,116]⟩,.int .i64 1,.string ⟨#[]⟩,.bool true]
 | 2,g,w => (g 2).1 = .slice (some ⟨(g 2).2.1,0,none⟩) 1 1 /\ RdX 4 (sP fldC) (inR (g 2)) w (g 2).1 [(⟨#[99,111,117,110,116]⟩,tI,true)]
 | 3,g,_ => (g 3).1 = .pointer (some ⟨kb,1,none⟩)
 | 4,g,_ => (g 4).1 = .int .u8 (k1 : Int)
 | 5,g,w => ∃ pp np cp pc nc cc ph nh ch,(g 5).1 = .agg #[.string (runS ⟨#[65]⟩ k1).name,.slice pp np cp,.int .i64 (runS ⟨#[65]⟩ k1).ret.1,.string (runS ⟨#[65]⟩ k1).ret.2,.bool (runS ⟨#[65]⟩ k1).st,.bool (runS ⟨#[65]⟩ k1).ab,.int .i64 (runS ⟨#[65]⟩ k1).locals,.slice pc nc cc,.slice ph nh ch] /\ mP (inR (g 5)) w [.string (runS ⟨#[65]⟩ k1).name,.slice pp np cp,.int .i64 (runS ⟨#[65]⟩ k1).ret.1,.string (runS ⟨#[65]⟩ k1).ret.2,.bool (runS ⟨#[65]⟩ k1).st,.bool (runS ⟨#[65]⟩ k1).ab,.int .i64 (runS ⟨#[65]⟩ k1).locals,.slice pc nc cc,.slice ph nh ch] (runS ⟨#[65]⟩ k1)
 | 6,g,w => ∃ r : Raw 9,(g 6).1 = .slice (some ⟨(g 6).2.1,0,none⟩) 1 1 /\ OwnX 9 49 (sP rawC) w (g 6).2.1 (g 6).1 [r] /\ (g 6).2.1 < (g 6).2.2 /\ mP (inR (g 5)) w (rawC r) (runS ⟨#[65]⟩ k1)
 | 7,g,_ => (g 7).1 = .agg #[.string ⟨#[65]⟩,.string ⟨#[66,97,115,101]⟩,.slice none 0 0,.int .i64 1,.slice (some ⟨(g 2).2.1,0,none⟩) 1 1,.slice (some ⟨(g 6).2.1,0,none⟩) 1 1]
 | 8,g,w => (g 8).1 = .pointer (some ⟨(g 8).2.1,0,none⟩) /\ (g 8).2.1 < (g 8).2.2 /\ w.heap[(g 8).2.1]? = some (.cells #[.string ⟨#[]⟩,.string ⟨#[]⟩,.slice none 0 0,.int .i64 0,.slice none 0 0,.slice none 0 0] 42 (0,0))
 | _,_,_ => True
theorem fa_mono (k1 kb : Nat) : ∀ i,i < 9 -> ∀ g w w',Below w.heap.size w w' -> (∀ k,k ∈ faC i -> (g k).2.2 <= w.heap.size) -> faF k1 kb i (restr (faC i) g) w -> faF k1 kb i (restr (faC i) g) w' :=
 all9
  (fun _ _ _ _ _ h => h)
  (fun _ _ _ _ _ h => h)
  (fun _ _ _ hb _ h => ⟨h.1,h.2.step (sP.grow _) (fun _ h _ => h) (.of_below hb) hb.size⟩)
  (fun _ _ _ _ _ h => h)
  (fun _ _ _ _ _ h => h)
  (fun _ _ _ hb _ h => by obtain ⟨pp,np,cp,pc,nc,cc,ph,nh,ch,e,h⟩ := h; exact ⟨pp,np,cp,pc,nc,cc,ph,nh,ch,e,mP.grow _ _ _ _ _ _ h (fun _ h _ => h) (.of_below hb) hb.size⟩)
  (fun _ _ _ hb _ h => by obtain ⟨r,e,ho,hl,h⟩ := h; exact ⟨r,e,ho.kptS (.of_below hb : Kpt [] _ _) (fun _ _ => by simp),hl,mP.grow _ _ _ _ _ _ h (fun _ h _ => h) (.of_below hb) hb.size⟩)
  (fun _ _ _ _ _ h => h)
  (fun g w _ hb hs h => ⟨h.1,h.2.1,by have h8 : (g 8).2.2 <= w.heap.size := hs 8 (List.mem_cons_self ..); have h9 : (g 8).2.1 < (g 8).2.2 := h.2.1; exact (hb.block _ (by show (g 8).2.1 < _; omega)).trans h.2.2⟩)
def fdC : Nat -> List Nat
 | 12 => [11,12]
 | 13 => [0,5,12,13]
 | i => [i]
def fdL : Nat -> List (Nat × Nat)
 | 2 => [(147,1)]
 | 4 => [(149,3)]
 | 5 => [(148,2),(150,4)]
 | 7 => [(152,6)]
 | 9 => [(154,8)]
 | 10 => [(153,7),(155,9)]
 | 11 => [(156,10)]
 | 12 => [(157,11)]
 | 13 => [(146,0),(151,5),(158,12)]
 | _ => []
def fdF (k1 k2 kb : Nat) : Nat -> (Nat -> Tk) -> World -> Prop
 | 0,g,w => (g 0).1 = .slice (some ⟨(g 0).2.1,0,none⟩) 1 1 /\ RdX 1 (sP strC) (inR (g 0)) w (g 0).1 [⟨#[74]⟩]
 | 1,g,_ => (g 1).1 = .agg #[.int .i64 1,.string ⟨#[]⟩]
 | 2,g,_ => (g 2).1 = .agg #[.string ⟨#[119,97,115,116,101]⟩,.int .i64 1,.string ⟨#[]⟩,.bool true]
 | 3,g,_ => (g 3).1 = .agg #[.int .i64 2,.string ⟨#[]⟩]
 | 4,g,_ => (g 4).1 = .agg #[.string ⟨#[120]⟩,.int .i64 2,.string ⟨#[]⟩,.bool false]
 | 5,g,w => (g 5).1 = .slice (some ⟨(g 5).2.1,0,none⟩) 2 2 /\ RdX 4 (sP fldC) (inR (g 5)) w (g 5).1 [(⟨#[119,97,115,116,101]⟩,tI,true),(⟨#[120]⟩,tS,false)]
 | 6,g,_ => (g 6).1 = .pointer (some ⟨kb,1,none⟩)
 | 7,g,_ => (g 7).1 = .int .u8 (k1 : Int)
 | 8,g,_ => (g 8).1 = .pointer (some ⟨kb,2,none⟩)
 | 9,g,_ => (g 9).1 = .int .u8 (k2 : Int)
 | 10,g,_ => (g 10).1 = .int .u8 (((k1 + k2) % 256 : Nat) : Int)
 | 11,g,w => ∃ pp np cp pc nc cc ph nh ch,(g 11).1 = .agg #[.string (runS ⟨#[68]⟩ ((k1 + k2) % 256)).name,.slice pp np cp,.int .i64 (runS ⟨#[68]⟩ ((k1 + k2) % 256)).ret.1,.string (runS ⟨#[68]⟩ ((k1 + k2) % 256)).ret.2,.bool (runS ⟨#[68]⟩ ((k1 + k2) % 256)).st,.bool (runS ⟨#[68]⟩ ((k1 + k2) % 256)).ab,.int .i64 (runS ⟨#[68]⟩ ((k1 + k2) % 256)).locals,.slice pc nc cc,.slice ph nh ch] /\ mP (inR (g 11)) w [.string (runS ⟨#[68]⟩ ((k1 + k2) % 256)).name,.slice pp np cp,.int .i64 (runS ⟨#[68]⟩ ((k1 + k2) % 256)).ret.1,.string (runS ⟨#[68]⟩ ((k1 + k2) % 256)).ret.2,.bool (runS ⟨#[68]⟩ ((k1 + k2) % 256)).st,.bool (runS ⟨#[68]⟩ ((k1 + k2) % 256)).ab,.int .i64 (runS ⟨#[68]⟩ ((k1 + k2) % 256)).locals,.slice pc nc cc,.slice ph nh ch] (runS ⟨#[68]⟩ ((k1 + k2) % 256))
 | 12,g,w => ∃ r : Raw 9,(g 12).1 = .slice (some ⟨(g 12).2.1,0,none⟩) 1 1 /\ OwnX 9 49 (sP rawC) w (g 12).2.1 (g 12).1 [r] /\ (g 12).2.1 < (g 12).2.2 /\ mP (inR (g 11)) w (rawC r) (runS ⟨#[68]⟩ ((k1 + k2) % 256))
 | 13,g,_ => (g 13).1 = .agg #[.string ⟨#[68]⟩,.string ⟨#[66,97,115,101]⟩,.slice (some ⟨(g 0).2.1,0,none⟩) 1 1,.int .i64 3,.slice (some ⟨(g 5).2.1,0,none⟩) 2 2,.slice (some ⟨(g 12).2.1,0,none⟩) 1 1]
 | 14,g,w => (g 14).1 = .pointer (some ⟨(g 14).2.1,0,none⟩) /\ (g 14).2.1 < (g 14).2.2 /\ w.heap[(g 14).2.1]? = some (.cells #[.string ⟨#[]⟩,.string ⟨#[]⟩,.slice none 0 0,.int .i64 0,.slice none 0 0,.slice none 0 0] 42 (0,0))
 | _,_,_ => True
theorem fd_mono (k1 k2 kb : Nat) : ∀ i,i < 15 -> ∀ g w w',Below w.heap.size w w' -> (∀ k,k ∈ fdC i -> (g k).2.2 <= w.heap.size) -> fdF k1 k2 kb i (restr (fdC i) g) w -> fdF k1 k2 kb i (restr (fdC i) g) w' :=
 all15
  (fun _ _ _ hb _ h => ⟨h.1,h.2.step (sP.grow _) (fun _ h _ => h) (.of_below hb) hb.size⟩)
  (fun _ _ _ _ _ h => h)
  (fun _ _ _ _ _ h => h)
  (fun _ _ _ _ _ h => h)
  (fun _ _ _ _ _ h => h)
  (fun _ _ _ hb _ h => ⟨h.1,h.2.step (sP.grow _) (fun _ h _ => h) (.of_below hb) hb.size⟩)
  (fun _ _ _ _ _ h => h)
  (fun _ _ _ _ _ h => h)
  (fun _ _ _ _ _ h => h)
  (fun _ _ _ _ _ h => h)
  (fun _ _ _ _ _ h => h)
  (fun _ _ _ hb _ h => by obtain ⟨pp,np,cp,pc,nc,cc,ph,nh,ch,e,h⟩ := h; exact ⟨pp,np,cp,pc,nc,cc,ph,nh,ch,e,mP.grow _ _ _ _ _ _ h (fun _ h _ => h) (.of_below hb) hb.size⟩)
  (fun _ _ _ hb _ h => by obtain ⟨r,e,ho,hl,h⟩ := h; exact ⟨r,e,ho.kptS (.of_below hb : Kpt [] _ _) (fun _ _ => by simp),hl,mP.grow _ _ _ _ _ _ h (fun _ h _ => h) (.of_below hb) hb.size⟩)
  (fun _ _ _ _ _ h => h)
  (fun g w _ hb hs h => ⟨h.1,h.2.1,by have h8 : (g 14).2.2 <= w.heap.size := hs 14 (List.mem_cons_self ..); have h9 : (g 14).2.1 < (g 14).2.2 := h.2.1; exact (hb.block _ (by show (g 14).2.1 < _; omega)).trans h.2.2⟩)
theorem family_v (k0 k1 k2 k3 : Nat) (w : World) (h0 : k0 < 256) (h1 : k1 < 256) (h2 : k2 < 256) (h3 : k3 < 256) :
  Calls Tryz.prog 29 #[.agg #[.int .u8 (k0 : Int),.int .u8 (k1 : Int),.int .u8 (k2 : Int),.int .u8 (k3 : Int)]] w fun e w' => ∃ p,e = .returned (.slice (some p) 6 6) /\ RdX 6 cP (fun b => w.heap.size <= b) w' (.slice (some p) 6 6) (familyS k0 k1 k2 k3) /\ Below w.heap.size w w' := by
 obtain ⟨wK,hwK⟩ : ∃ x,x = w.alloc (.cells #[.int .u8 (k0 : Int),.int .u8 (k1 : Int),.int .u8 (k2 : Int),.int .u8 (k3 : Int)] 22) := ⟨_,rfl⟩
 have hA : Below w.heap.size w wK := by rw [hwK]; exact below_alM _ _
 have hxK : wK.heap[w.heap.size]? = some (.cells #[.int .u8 (k0 : Int),.int .u8 (k1 : Int),.int .u8 (k2 : Int),.int .u8 (k3 : Int)] 22 (0,0)) := by rw [hwK]; exact heap_alloc_new _ _
 have hltK : w.heap.size < wK.heap.size := by rw [hwK]; simp
 have HXK := hid hxK
 have HA := hid hA
 clear hxK hA
 go_enter Tryz.func29,Tryz.ntmps29
 go_upto_region 2 with fail
 rw [<- hwK]
 clear hwK
 have HBS := hid (Below.refl wK.heap.size wK)
 go_cut [4] from 10 to 20 (fun s wx => ∃ tb gI gF,s = .pointer (some ⟨tb,0,none⟩) /\ ClB wx wK.heap.size tb (.slice (some ⟨gI,0,none⟩) 1 1) (.slice (some ⟨gF,0,none⟩) 4 4) (.slice none 0 0) [] ⟨⟨#[66,97,115,101]⟩,⟨#[79,98,106,101,99,116]⟩,[⟨#[73]⟩],2,[(⟨#[120]⟩,tI,false),(⟨#[110,101,120,116]⟩,tR ⟨#[66,97,115,101]⟩,false),(⟨#[119]⟩,tI,false),(⟨#[117,110,117,115,101,100]⟩,tS,false)],[]⟩ /\ Below wK.heap.size wK wx)
 case first =>
  go_wp2_with fail
  refine (typ_v _ _).mono ?_
  rintro e wa ⟨rfl,hba⟩
  have HI := hid (rd_lit_next (c := strC) (sz := 1) hba [⟨#[73]⟩] rfl (fun _ => rfl) (fun b => wK.heap.size <= b /\ (Value.slice none 0 0).ownBlock ≠ some b) ⟨Nat.le_refl _,by simp [Value.ownBlock]⟩ 1 rfl)
  have HB := hid ((below_alM wK _).trans (hba.mono (by simp)))
  clear hba
  go_wp2_with fail
  refine (ref_v _ _).mono ?_
  rintro e wb ⟨rfl,hbb⟩
  replace HI := hid (HI.out.any (sP.grow _) hbb)
  replace HB := hid (HB.out.trans (hbb.mono HB.out.size))
  clear hbb
  go_wp2_with fail
  refine (typ_v _ _).mono ?_
  rintro e wc ⟨rfl,hbb⟩
  replace HI := hid (HI.out.any (sP.grow _) hbb)
  replace HB := hid (HB.out.trans (hbb.mono HB.out.size))
  clear hbb
  go_wp2_with fail
  refine (typ_v _ _).mono ?_
  rintro e wd ⟨rfl,hbb⟩
  replace HI := hid (HI.out.any (sP.grow _) hbb)
  replace HB := hid (HB.out.trans (hbb.mono HB.out.size))
  clear hbb
  go_wp2_with fail
  go_meet
  have hF := rd_lit_next (c := fldC) (sz := 4) (T := 87) (cs := #[.string ⟨#[120]⟩,.int .i64 1,.string ⟨#[]⟩,.bool false,.string ⟨#[110,101,120,116]⟩,.int .i64 4,.string ⟨#[66,97,115,101]⟩,.bool false,.string ⟨#[119]⟩,.int .i64 1,.string ⟨#[]⟩,.bool false,.string ⟨#[117,110,117,115,101,100]⟩,.int .i64 2,.string ⟨#[]⟩,.bool false]) (Below.refl _ _) [(⟨#[120]⟩,tI,false),(⟨#[110,101,120,116]⟩,tR ⟨#[66,97,115,101]⟩,false),(⟨#[119]⟩,tI,false),(⟨#[117,110,117,115,101,100]⟩,tS,false)] rfl (fun _ => rfl) (fun b => wK.heap.size <= b /\ (Value.slice none 0 0).ownBlock ≠ some b) ⟨HB.out.size,by simp [Value.ownBlock]⟩ 4 rfl
  have hI := HI.out.any (sP.grow _) (below_alM wd (.cells #[.string ⟨#[120]⟩,.int .i64 1,.string ⟨#[]⟩,.bool false,.string ⟨#[110,101,120,116]⟩,.int .i64 4,.string ⟨#[66,97,115,101]⟩,.bool false,.string ⟨#[119]⟩,.int .i64 1,.string ⟨#[]⟩,.bool false,.string ⟨#[117,110,117,115,101,100]⟩,.int .i64 2,.string ⟨#[]⟩,.bool false] 87))
  obtain ⟨y1,y2⟩ := ClB.make (ms := []) (tb := wd.heap.size + 1) (by simp) (Nat.le_trans HB.out.size (below_alM wd _).size) hI hF (OwnX.nil _ _ _ _ _) trivial
  exact ⟨_,_,_,rfl,y1,(HB.out.trans ((below_alM wd _).mono HB.out.size)).trans y2⟩
 case rest =>
  obtain ⟨tb,gI,gF,rfl,hC,hB⟩ := hcut
  rename World => P0
  have HC := hid hC
  have HB := hid hB
  clear hC hB
  go_upto_region 3 with fail
  go_cut [] from 21 to 28 (fun wx => ∃ p n c rs,rs.length <= 1 /\ ClB wx wK.heap.size tb (.slice (some ⟨gI,0,none⟩) 1 1) (.slice (some ⟨gF,0,none⟩) 4 4) (.slice p n c) rs ⟨⟨#[66,97,115,101]⟩,⟨#[79,98,106,101,99,116]⟩,[⟨#[73]⟩],2,[(⟨#[120]⟩,tI,false),(⟨#[110,101,120,116]⟩,tR ⟨#[66,97,115,101]⟩,false),(⟨#[119]⟩,tI,false),(⟨#[117,110,117,115,101,100]⟩,tS,false)],[mthS ⟨#[110,97,109,101]⟩ [] tS false 1 [iStr ⟨#[98,97,115,101]⟩,iOne 39]]⟩ /\ Below wK.heap.size wK wx)
  case first =>
   go_wp2_with fail
   refine (typ_v _ _).mono ?_
   rintro e wy0 ⟨rfl,hbb⟩
   replace HC := hid (HC.out.below hbb)
   replace HB := hid (HB.out.trans (hbb.mono HB.out.size))
   clear hbb
   go_wp2_with fail
   refine (str_x _ _).mono ?_
   rintro e wy1 ⟨rfl,hbb⟩
   replace HC := hid (HC.out.below hbb)
   replace HB := hid (HB.out.trans (hbb.mono HB.out.size))
   clear hbb
   go_wp2_with fail
   refine (one_x _ _).mono ?_
   rintro e wy2 ⟨rfl,hbb⟩
   replace HC := hid (HC.out.below hbb)
   replace HB := hid (HB.out.trans (hbb.mono HB.out.size))
   clear hbb
   go_wp2_with fail
   refine (method_v _ none _ 0 0 _ _ _ _ _ _ _).mono ?_
   rintro e wm ⟨rfl,hbm⟩
   have HQ := hid (rd_lit_next (c := insC) hbm [iStr ⟨#[98,97,115,101]⟩,iOne 39] rfl insC_len (okT wK.heap.size tb (.slice none 0 0)) (HC.out.okNew HB.out.size _ (Nat.le_refl _)) 2 rfl)
   replace HC := hid ((HC.out.below (below_alM wy2 _)).below hbm)
   replace HB := hid ((HB.out.trans ((below_alM wy2 _).mono HB.out.size)).trans (hbm.mono (Nat.le_trans HB.out.size (below_alM wy2 _).size)))
   clear hbm
   obtain ⟨t1,t2,t3⟩ := HC.out.cells
   go_wp2_with fail
   go_meet
   obtain ⟨y1,y2⟩ := HC.out.lits HB.out.size (rs := [rawM ⟨#[110,97,109,101]⟩ none 0 0 2 ⟨#[]⟩ false 1 (some ⟨wy2.heap.size,0,none⟩) 2 2]) (ms := [mthS ⟨#[110,97,109,101]⟩ [] tS false 1 [iStr ⟨#[98,97,115,101]⟩,iOne 39]]) ⟨⟨_,_,_,rfl,RdX.nil _ _ _ _,HQ.out,RdX.nil _ _ _ _⟩,trivial⟩ _ rfl 1 rfl (by decide)
   exact ⟨_,_,_,_,by simp,y1,HB.out.trans y2⟩
  case rest =>
   clear HC HB
   obtain ⟨p,n,c,rs,hlo,hC,hB⟩ := hcut
   rename World => P1
   have HC := hid hC
   have HB := hid hB
   clear hC hB
   go_upto_region 4 with fail
   go_cut [32] from 29 to 32 (fun s wx => ∃ bv : Bool,s = .bool bv /\ bv = bitS k0 0 /\ wx = P1)
   case first =>
    obtain ⟨-,hkc,-⟩ := boxN (((HBS.out.trans (HB.out.mono HBS.out.size)).block _ hltK).trans HXK.out)
    have hk0 := hkc 0 _ rfl
    simp only [Nat.zero_add] at hk0
    clear hkc
    by_cases hb : k0 / 2 ^ 0 % 2 = 1
    ·have hbb : bits BinOp.and IntKind.u8 (k0 : Int) 1 = 1 := by have := bit_at h0 0 (by decide); rw [if_pos hb] at this; exact this
     have HW := hid (show true = bitS k0 0 by unfold bitS; rw [decide_eq_true hb])
     clear hb
     go_wp2_with fail
     go_meet
     exact ⟨_,rfl,HW.out,rfl⟩
    ·have hbb : bits BinOp.and IntKind.u8 (k0 : Int) 1 = 0 := by have := bit_at h0 0 (by decide); rw [if_neg hb] at this; exact this
     have HW := hid (show false = bitS k0 0 by unfold bitS; rw [decide_eq_false hb])
     clear hb
     go_wp2_with fail
     go_meet
     exact ⟨_,rfl,HW.out,rfl⟩
   case rest =>
    obtain ⟨bv,rfl,hbv,rfl⟩ := hcut
    rename World => P1
    have HV := hid hbv
    clear hbv
    go_upto_if 32 with fail
    go_cut [] from 33 to 39 (fun wx => ∃ p n c rs,rs.length <= 2 /\ ClB wx wK.heap.size tb (.slice (some ⟨gI,0,none⟩) 1 1) (.slice (some ⟨gF,0,none⟩) 4 4) (.slice p n c) rs ⟨⟨#[66,97,115,101]⟩,⟨#[79,98,106,101,99,116]⟩,[⟨#[73]⟩],2,[(⟨#[120]⟩,tI,false),(⟨#[110,101,120,116]⟩,tR ⟨#[66,97,115,101]⟩,false),(⟨#[119]⟩,tI,false),(⟨#[117,110,117,115,101,100]⟩,tS,false)],[mthS ⟨#[110,97,109,101]⟩ [] tS false 1 [iStr ⟨#[98,97,115,101]⟩,iOne 39]] ++ whenS (bitS k0 0) [absS]⟩ /\ Below wK.heap.size wK wx)
    case first =>
     cases bv with
     | true =>
      have HW : Hid (whenS (bitS k0 0) [absS] = [absS]) := hid (by unfold whenS; rw [<- HV.out]; rfl)
      go_wp2_with fail
      have hCx := HC.out.below (below_drU P1)
      have hBx : Below wK.heap.size wK P1.drew := HB.out.trans ((below_drU P1).mono HB.out.size)
      obtain ⟨t1,t2,t3⟩ := hCx.cells
      go_region_law (first
       | (refine step_appM inf_mth (shape_raw 9) (by rfl) _ _ (by rfl) wK.heap.size _ rs (by rfl) hCc.2.2.2.2.1 _ 0 1 1 [rX] (by rfl) hsrc.out (by simp <;> omega) hBc ?_; intro v3 w3 ho3 hg3 hl3; obtain ⟨e1,e2,e3,hC5,hB5⟩ := hCc.app hBc hmX.out ho3 hg3 hl3; obtain ⟨p3,n3,c3,hv3⟩ := ho3.slice; subst hv3; have HC5 := hid hC5; have HB5 := hid hB5; clear hC5 hB5 ho3 hg3 hl3)
       | (rw [if_pos (by rfl)]; go_simp; go_at_call 23; refine (typ_v _ _).mono ?_; rintro e wx ⟨rfl,hbx⟩; have hm : Hid (mP (okT wK.heap.size tb (.slice p n c)) wx [.string ⟨#[114,117,110]⟩,.slice none 0 0,.int .i64 1,.string ⟨#[]⟩,.bool false,.bool true,.int .i64 0,.slice none 0 0,.slice none 0 0] absS) := hid ⟨_,_,_,rfl,RdX.nil _ _ _ _,RdX.nil _ _ _ _,RdX.nil _ _ _ _⟩; replace hBx := hBx.trans (hbx.mono hBx.size); replace hCx := hCx.below hbx; clear hbx; obtain ⟨t1,t2,t3⟩ := hCx.cells; obtain ⟨rX,hsrc0,hCc,hBc,hmX0,hbl⟩ := hCx.ready hBx.size _ (absS) hm.out #[.string ⟨#[114,117,110]⟩,.slice none 0 0,.int .i64 1,.string ⟨#[]⟩,.bool false,.bool true,.int .i64 0,.slice none 0 0,.slice none 0 0] rfl; have hsrc := hid hsrc0; have hmX := hid hmX0; have HBX2 := hid (hBx.trans hbl); clear hsrc0 hmX0 hbl; obtain ⟨d1,d2,d3⟩ := hCc.cells))
      all_goals
       go_wp2_with fail
       go_meet
       refine ⟨_,_,_,_,?_,by rw [HW.out]; exact HC5.out,HBX2.out.trans HB5.out⟩
       rw [List.length_append]
       simp only [List.length_cons,List.length_nil]
       omega
     | false =>
      have HW : Hid (whenS (bitS k0 0) [absS] = []) := hid (by unfold whenS; rw [<- HV.out]; rfl)
      go_wp2_with fail
      go_meet
      exact ⟨_,_,_,_,Nat.le_succ_of_le hlo,by rw [HW.out,List.append_nil]; exact HC.out,HB.out⟩
    case rest =>
     clear HC HB hlo
     obtain ⟨p,n,c,rs,hlo,hC,hB⟩ := hcut
     rename World => P2
     have HC := hid hC
     have HB := hid hB
     clear hC hB
     go_upto_region 6 with fail
     go_cut [43] from 40 to 43 (fun s wx => ∃ bv : Bool,s = .bool bv /\ bv = bitS k0 1 /\ wx = P2)
     case first =>
      obtain ⟨-,hkc,-⟩ := boxN (((HBS.out.trans (HB.out.mono HBS.out.size)).block _ hltK).trans HXK.out)
      have hk0 := hkc 0 _ rfl
      simp only [Nat.zero_add] at hk0
      clear hkc
      by_cases hb : k0 / 2 ^ 1 % 2 = 1
      ·have hbb : bits BinOp.and IntKind.u8 (k0 : Int) 2 = 2 := by have := bit_at h0 1 (by decide); rw [if_pos hb] at this; exact this
       have HW := hid (show true = bitS k0 1 by unfold bitS; rw [decide_eq_true hb])
       clear hb
       go_wp2_with fail
       go_meet
       exact ⟨_,rfl,HW.out,rfl⟩
      ·have hbb : bits BinOp.and IntKind.u8 (k0 : Int) 2 = 0 := by have := bit_at h0 1 (by decide); rw [if_neg hb] at this; exact this
       have HW := hid (show false = bitS k0 1 by unfold bitS; rw [decide_eq_false hb])
       clear hb
       go_wp2_with fail
       go_meet
       exact ⟨_,rfl,HW.out,rfl⟩
     case rest =>
      obtain ⟨bv,rfl,hbv,rfl⟩ := hcut
      rename World => P2
      have HV := hid hbv
      clear hbv
      go_upto_if 43 with fail
      go_cut [] from 44 to 49 (fun wx => ∃ p n c rs,rs.length <= 3 /\ ClB wx wK.heap.size tb (.slice (some ⟨gI,0,none⟩) 1 1) (.slice (some ⟨gF,0,none⟩) 4 4) (.slice p n c) rs ⟨⟨#[66,97,115,101]⟩,⟨#[79,98,106,101,99,116]⟩,[⟨#[73]⟩],2,[(⟨#[120]⟩,tI,false),(⟨#[110,101,120,116]⟩,tR ⟨#[66,97,115,101]⟩,false),(⟨#[119]⟩,tI,false),(⟨#[117,110,117,115,101,100]⟩,tS,false)],[mthS ⟨#[110,97,109,101]⟩ [] tS false 1 [iStr ⟨#[98,97,115,101]⟩,iOne 39]] ++ whenS (bitS k0 0) [absS] ++ whenS (bitS k0 1) [clinitS ⟨#[98,97,115,101]⟩]⟩ /\ Below wK.heap.size wK wx)
      case first =>
       cases bv with
       | true =>
        have HW : Hid (whenS (bitS k0 1) [clinitS ⟨#[98,97,115,101]⟩] = [clinitS ⟨#[98,97,115,101]⟩]) := hid (by unfold whenS; rw [<- HV.out]; rfl)
        go_wp2_with fail
        have hCx := HC.out.below (below_drU P2)
        have hBx : Below wK.heap.size wK P2.drew := HB.out.trans ((below_drU P2).mono HB.out.size)
        obtain ⟨t1,t2,t3⟩ := hCx.cells
        go_region_law (first
         | (refine step_appM inf_mth (shape_raw 9) (by rfl) _ _ (by rfl) wK.heap.size _ rs (by rfl) hCc.2.2.2.2.1 _ 0 1 1 [rX] (by rfl) hsrc.out (by simp <;> omega) hBc ?_; intro v3 w3 ho3 hg3 hl3; obtain ⟨e1,e2,e3,hC5,hB5⟩ := hCc.app hBc hmX.out ho3 hg3 hl3; obtain ⟨p3,n3,c3,hv3⟩ := ho3.slice; subst hv3; have HC5 := hid hC5; have HB5 := hid hB5; clear hC5 hB5 ho3 hg3 hl3)
         | (rw [if_pos (by rfl)]; go_simp; go_at_call 24; refine (clinit_v _ _).mono ?_; rintro e wx ⟨pp,np,cp,pc,nc,cc,ph,nh,ch,rfl,g1,g2,g3,hbx⟩; have hm0 : mP (okT wK.heap.size tb (.slice p n c)) wx [.string (clinitS ⟨#[98,97,115,101]⟩).name,.slice pp np cp,.int .i64 (clinitS ⟨#[98,97,115,101]⟩).ret.1,.string (clinitS ⟨#[98,97,115,101]⟩).ret.2,.bool (clinitS ⟨#[98,97,115,101]⟩).st,.bool (clinitS ⟨#[98,97,115,101]⟩).ab,.int .i64 (clinitS ⟨#[98,97,115,101]⟩).locals,.slice pc nc cc,.slice ph nh ch] (clinitS ⟨#[98,97,115,101]⟩) := mP.grow _ _ _ _ _ _ (show mP (fun b => P2.drew.heap.size <= b) wx [.string (clinitS ⟨#[98,97,115,101]⟩).name,.slice pp np cp,.int .i64 (clinitS ⟨#[98,97,115,101]⟩).ret.1,.string (clinitS ⟨#[98,97,115,101]⟩).ret.2,.bool (clinitS ⟨#[98,97,115,101]⟩).st,.bool (clinitS ⟨#[98,97,115,101]⟩).ab,.int .i64 (clinitS ⟨#[98,97,115,101]⟩).locals,.slice pc nc cc,.slice ph nh ch] (clinitS ⟨#[98,97,115,101]⟩) from ⟨_,_,_,rfl,g1,g2,g3⟩) (fun b hb _ => hCx.okNew hBx.size b hb) (fun _ _ _ => rfl) (Nat.le_refl _); have hm := hid hm0; clear g1 g2 g3 hm0; replace hBx := hBx.trans (hbx.mono hBx.size); replace hCx := hCx.below hbx; clear hbx; obtain ⟨t1,t2,t3⟩ := hCx.cells; obtain ⟨rX,hsrc0,hCc,hBc,hmX0,hbl⟩ := hCx.ready hBx.size _ (clinitS ⟨#[98,97,115,101]⟩) hm.out #[.string (clinitS ⟨#[98,97,115,101]⟩).name,.slice pp np cp,.int .i64 (clinitS ⟨#[98,97,115,101]⟩).ret.1,.string (clinitS ⟨#[98,97,115,101]⟩).ret.2,.bool (clinitS ⟨#[98,97,115,101]⟩).st,.bool (clinitS ⟨#[98,97,115,101]⟩).ab,.int .i64 (clinitS ⟨#[98,97,115,101]⟩).locals,.slice pc nc cc,.slice ph nh ch] rfl; have hsrc := hid hsrc0; have hmX := hid hmX0; have HBX2 := hid (hBx.trans hbl); clear hsrc0 hmX0 hbl; obtain ⟨d1,d2,d3⟩ := hCc.cells))
        all_goals
         go_wp2_with fail
         go_meet
         refine ⟨_,_,_,_,?_,by rw [HW.out]; exact HC5.out,HBX2.out.trans HB5.out⟩
         rw [List.length_append]
         simp only [List.length_cons,List.length_nil]
         omega
       | false =>
        have HW : Hid (whenS (bitS k0 1) [clinitS ⟨#[98,97,115,101]⟩] = []) := hid (by unfold whenS; rw [<- HV.out]; rfl)
        go_wp2_with fail
        go_meet
        exact ⟨_,_,_,_,Nat.le_succ_of_le hlo,by rw [HW.out,List.append_nil]; exact HC.out,HB.out⟩
      case rest =>
       clear HC HB hlo
       obtain ⟨p,n,c,rs,hlo,hC,hB⟩ := hcut
       rename World => P3
       have HC := hid hC
       have HB := hid hB
       clear hC hB
       have HZ1 := hid (show w.heap.size <= wK.heap.size by have := HBS.out.size; omega)
       have HD1 := HC
       replace HBS := hid (HBS.out.trans (HB.out.mono HBS.out.size))
       clear HB HC hlo
       go_upto_region 8 with fail
       go_cut [5] from 50 to 57 (fun s wx => ∃ tb2 gF2 p n c rs,s = .pointer (some ⟨tb2,0,none⟩) /\ rs.length <= 1 /\ ClB wx P3.heap.size tb2 (.slice none 0 0) (.slice (some ⟨gF2,0,none⟩) 1 1) (.slice p n c) rs ⟨⟨#[65]⟩,⟨#[66,97,115,101]⟩,[],1,[(⟨#[99,111,117,110,116]⟩,tI,true)],[runS ⟨#[65]⟩ k1]⟩ /\ Below P3.heap.size P3 wx)
       case first =>
        refine wp_region_grow (by kernel_rfl) 9 0 [50,51,52,53,54,55,56,57,5] [(1,.pointer (some ⟨w.heap.size,0,none⟩))] faL faC (faF k1 w.heap.size) _ rfl (by kernel_rfl) (by simp) (fa_mono k1 w.heap.size) (all9 ?_ ?_ ?_ ?_ ?_ ?_ ?_ ?_ ?_) ?_
        ·intro o ho g w2 hb hf hr hd
         simp only [List.getElem?_toArray,List.getElem?_cons_succ,List.getElem?_cons_zero,Option.some.injEq] at ho
         subst ho
         have ec : ∀ v,evL [(1,.pointer (some ⟨w.heap.size,0,none⟩))] (faL 0) g (.const v) = v := fun _ => rfl
         unfold Yld
         go_simp
         refine (typ_v _ _).mono ?_
         rintro e w' ⟨rfl,hbb⟩
         exact ⟨_,rfl,hbb,rfl⟩
        ·intro o ho g w2 hb hf hr hd
         simp only [List.getElem?_toArray,List.getElem?_cons_succ,List.getElem?_cons_zero,Option.some.injEq] at ho
         subst ho
         have f0 := hf 0 (by decide) (by rfl)
         replace f0 : (g 0).1 = .agg #[.int .i64 1,.string ⟨#[]⟩] := f0
         have e0 : evL [(1,.pointer (some ⟨w.heap.size,0,none⟩))] (faL 1) g (.tmp 50) = (g 0).1 := rfl
         rw [f0] at e0
         have ec : ∀ v,evL [(1,.pointer (some ⟨w.heap.size,0,none⟩))] (faL 1) g (.const v) = v := fun _ => rfl
         unfold Yld
         go_simp
         exact ⟨Below.refl _ _,rfl⟩
        ·intro o ho g w2 hb hf hr hd
         simp only [List.getElem?_toArray,List.getElem?_cons_succ,List.getElem?_cons_zero,Option.some.injEq] at ho
         subst ho
         have f1 := hf 1 (by decide) (by rfl)
         replace f1 : (g 1).1 = .agg #[.string ⟨#[99,111,117,110,116]⟩,.int .i64 1,.string ⟨#[]⟩,.bool true] := f1
         have e1 : evL [(1,.pointer (some ⟨w.heap.size,0,none⟩))] (faL 2) g (.tmp 51) = (g 1).1 := rfl
         rw [f1] at e1
         have ec : ∀ v,evL [(1,.pointer (some ⟨w.heap.size,0,none⟩))] (faL 2) g (.const v) = v := fun _ => rfl
         unfold Yld
         go_simp
         exact ⟨below_alM _ _,rfl,rd_lit_next (c := fldC) (w := w2) (cs := #[.string ⟨#[99,111,117,110,116]⟩,.int .i64 1,.string ⟨#[]⟩,.bool true]) (T := 87) (Below.refl _ _) [(⟨#[99,111,117,110,116]⟩,tI,true)] rfl (fun _ => rfl) (inR (undef,w2.heap.size,w2.heap.size + 1)) ⟨Nat.le_refl _,by (show w2.heap.size < w2.heap.size + 1; omega)⟩ 1 rfl⟩
        ·intro o ho g w2 hb hf hr hd
         simp only [List.getElem?_toArray,List.getElem?_cons_succ,List.getElem?_cons_zero,Option.some.injEq] at ho
         subst ho
         have x1 : evL [(1,.pointer (some ⟨w.heap.size,0,none⟩))] (faL 3) g (.tmp 1) = .pointer (some ⟨w.heap.size,0,none⟩) := rfl
         have ec : ∀ v,evL [(1,.pointer (some ⟨w.heap.size,0,none⟩))] (faL 3) g (.const v) = v := fun _ => rfl
         unfold Yld
         go_simp
         exact ⟨Below.refl _ _,rfl⟩
        ·intro o ho g w2 hb hf hr hd
         simp only [List.getElem?_toArray,List.getElem?_cons_succ,List.getElem?_cons_zero,Option.some.injEq] at ho
         subst ho
         have f3 := hf 3 (by decide) (by rfl)
         replace f3 : (g 3).1 = .pointer (some ⟨w.heap.size,1,none⟩) := f3
         have e3 : evL [(1,.pointer (some ⟨w.heap.size,0,none⟩))] (faL 4) g (.tmp 53) = (g 3).1 := rfl
         rw [f3] at e3
         have ec : ∀ v,evL [(1,.pointer (some ⟨w.heap.size,0,none⟩))] (faL 4) g (.const v) = v := fun _ => rfl
         unfold Yld
         obtain ⟨-,hkc,-⟩ := boxN (((HBS.out.trans ((below_drU _).mono HBS.out.size)).trans (hb.mono (by have := HBS.out.size; simpa using this)) |>.block _ hltK).trans HXK.out)
         have hk0 := hkc 1 _ rfl
         simp only [Nat.zero_add] at hk0
         clear hkc
         go_simp
         exact ⟨Below.refl _ _,rfl⟩
        ·intro o ho g w2 hb hf hr hd
         simp only [List.getElem?_toArray,List.getElem?_cons_succ,List.getElem?_cons_zero,Option.some.injEq] at ho
         subst ho
         have f4 := hf 4 (by decide) (by rfl)
         replace f4 : (g 4).1 = .int .u8 (k1 : Int) := f4
         have e4 : evL [(1,.pointer (some ⟨w.heap.size,0,none⟩))] (faL 5) g (.tmp 54) = (g 4).1 := rfl
         rw [f4] at e4
         have ec : ∀ v,evL [(1,.pointer (some ⟨w.heap.size,0,none⟩))] (faL 5) g (.const v) = v := fun _ => rfl
         unfold Yld
         go_simp
         refine (run_v _ _ _ h1).mono ?_
         rintro e w' ⟨pp,np,cp,pc,nc,cc,ph,nh,ch,rfl,g1,g2,g3,hbx⟩
         refine ⟨_,rfl,hbx,pp,np,cp,pc,nc,cc,ph,nh,ch,rfl,_,_,_,rfl,?_,?_,?_⟩
         ·exact g1.step (sP.grow _) (fun b h1 h2 => ⟨h1,h2⟩) (fun _ _ _ => rfl) (Nat.le_refl _)
         ·exact g2.step (sP.grow _) (fun b h1 h2 => ⟨h1,h2⟩) (fun _ _ _ => rfl) (Nat.le_refl _)
         ·exact g3.step (sP.grow _) (fun b h1 h2 => ⟨h1,h2⟩) (fun _ _ _ => rfl) (Nat.le_refl _)
        ·intro o ho g w2 hb hf hr hd
         simp only [List.getElem?_toArray,List.getElem?_cons_succ,List.getElem?_cons_zero,Option.some.injEq] at ho
         subst ho
         have f5 := hf 5 (by decide) (by rfl)
         replace f5 : ∃ pp np cp pc nc cc ph nh ch,(g 5).1 = .agg #[.string (runS ⟨#[65]⟩ k1).name,.slice pp np cp,.int .i64 (runS ⟨#[65]⟩ k1).ret.1,.string (runS ⟨#[65]⟩ k1).ret.2,.bool (runS ⟨#[65]⟩ k1).st,.bool (runS ⟨#[65]⟩ k1).ab,.int .i64 (runS ⟨#[65]⟩ k1).locals,.slice pc nc cc,.slice ph nh ch] /\ mP (inR (g 5)) w2 [.string (runS ⟨#[65]⟩ k1).name,.slice pp np cp,.int .i64 (runS ⟨#[65]⟩ k1).ret.1,.string (runS ⟨#[65]⟩ k1).ret.2,.bool (runS ⟨#[65]⟩ k1).st,.bool (runS ⟨#[65]⟩ k1).ab,.int .i64 (runS ⟨#[65]⟩ k1).locals,.slice pc nc cc,.slice ph nh ch] (runS ⟨#[65]⟩ k1) := f5
         obtain ⟨pp,np,cp,pc,nc,cc,ph,nh,ch,f5,hm⟩ := f5
         have e5 : evL [(1,.pointer (some ⟨w.heap.size,0,none⟩))] (faL 6) g (.tmp 55) = (g 5).1 := rfl
         rw [f5] at e5
         have ec : ∀ v,evL [(1,.pointer (some ⟨w.heap.size,0,none⟩))] (faL 6) g (.const v) = v := fun _ => rfl
         unfold Yld
         go_simp
         exact ⟨below_alM _ _,⟨_,shape_mth _ _ _ _ hm⟩,rfl,OwnX.lits rawC_len w2 [⟨_,shape_mth _ _ _ _ hm⟩] _ rfl 1 rfl (by decide),by (show w2.heap.size < w2.heap.size + 1; omega),mP.grow _ _ _ _ _ _ hm (fun _ h _ => h) (.of_below (below_alM w2 _)) (below_alM w2 _).size⟩
        ·intro o ho g w2 hb hf hr hd
         simp only [List.getElem?_toArray,List.getElem?_cons_succ,List.getElem?_cons_zero,Option.some.injEq] at ho
         subst ho
         have f2 := hf 2 (by decide) (by rfl)
         replace f2 : (g 2).1 = .slice (some ⟨(g 2).2.1,0,none⟩) 1 1 /\ RdX 4 (sP fldC) (inR (g 2)) w2 (g 2).1 [(⟨#[99,111,117,110,116]⟩,tI,true)] := f2
         replace f2 := f2.1
         have f6 := hf 6 (by decide) (by rfl)
         replace f6 : ∃ r : Raw 9,(g 6).1 = .slice (some ⟨(g 6).2.1,0,none⟩) 1 1 /\ OwnX 9 49 (sP rawC) w2 (g 6).2.1 (g 6).1 [r] /\ (g 6).2.1 < (g 6).2.2 /\ mP (inR (g 5)) w2 (rawC r) (runS ⟨#[65]⟩ k1) := f6
         obtain ⟨r6,f6,-⟩ := f6
         have e2 : evL [(1,.pointer (some ⟨w.heap.size,0,none⟩))] (faL 7) g (.tmp 52) = (g 2).1 := rfl
         rw [f2] at e2
         have e6 : evL [(1,.pointer (some ⟨w.heap.size,0,none⟩))] (faL 7) g (.tmp 56) = (g 6).1 := rfl
         rw [f6] at e6
         have ec : ∀ v,evL [(1,.pointer (some ⟨w.heap.size,0,none⟩))] (faL 7) g (.const v) = v := fun _ => rfl
         unfold Yld
         go_simp
         exact ⟨Below.refl _ _,rfl⟩
        ·intro o ho g w2 hb hf hr hd
         simp only [List.getElem?_toArray,List.getElem?_cons_succ,List.getElem?_cons_zero,Option.some.injEq] at ho
         subst ho
         have ec : ∀ v,evL [(1,.pointer (some ⟨w.heap.size,0,none⟩))] (faL 8) g (.const v) = v := fun _ => rfl
         unfold Yld
         go_simp
         exact ⟨below_alM _ _,rfl,by (show w2.heap.size < w2.heap.size + 1; omega),heap_alloc_new _ _⟩
        ·intro fuel g w2 hb hf hr hd
         have f2 : (g 2).1 = .slice (some ⟨(g 2).2.1,0,none⟩) 1 1 /\ RdX 4 (sP fldC) (inR (g 2)) w2 (g 2).1 [(⟨#[99,111,117,110,116]⟩,tI,true)] := hf 2 (by decide)
         have f6 : ∃ r : Raw 9,(g 6).1 = .slice (some ⟨(g 6).2.1,0,none⟩) 1 1 /\ OwnX 9 49 (sP rawC) w2 (g 6).2.1 (g 6).1 [r] /\ (g 6).2.1 < (g 6).2.2 /\ mP (inR (g 5)) w2 (rawC r) (runS ⟨#[65]⟩ k1) := hf 6 (by decide)
         have f8 : (g 8).1 = .pointer (some ⟨(g 8).2.1,0,none⟩) /\ (g 8).2.1 < (g 8).2.2 /\ w2.heap[(g 8).2.1]? = some (.cells #[.string ⟨#[]⟩,.string ⟨#[]⟩,.slice none 0 0,.int .i64 0,.slice none 0 0,.slice none 0 0] 42 (0,0)) := hf 8 (by decide)
         have f7 : (g 7).1 = .agg #[.string ⟨#[65]⟩,.string ⟨#[66,97,115,101]⟩,.slice none 0 0,.int .i64 1,.slice (some ⟨(g 2).2.1,0,none⟩) 1 1,.slice (some ⟨(g 6).2.1,0,none⟩) 1 1] := hf 7 (by decide)
         obtain ⟨f2,j2⟩ := f2
         obtain ⟨r,f6,m2,m3,m4⟩ := f6
         obtain ⟨f8,a2,a3⟩ := f8
         have q2 := hr 2 (by decide)
         have q6 := hr 6 (by decide)
         have q5 := hr 5 (by decide)
         have q8 := hr 8 (by decide)
         have d2_6 := hd 2 6 (by decide) (by decide) (by decide)
         have d2_5 := hd 2 5 (by decide) (by decide) (by decide)
         have d2_8 := hd 2 8 (by decide) (by decide) (by decide)
         have d5_6 := hd 5 6 (by decide) (by decide) (by decide)
         have d6_8 := hd 6 8 (by decide) (by decide) (by decide)
         have d5_8 := hd 5 8 (by decide) (by decide) (by decide)
         rw [f2] at j2
         rw [f6] at m2
         clear hf hr hd
         obtain ⟨vA,hvA⟩ : ∃ x,x = (g 8).1 := ⟨_,rfl⟩
         have HQ2 := hid (And.intro m2 m4)
         clear m2 m4
         have HJ := hid j2
         clear j2
         obtain ⟨g1,g2,g3⟩ := boxN a3
         have c0 := g2 0 _ rfl
         have z0 := g3 0
         have c1 := g2 1 _ rfl
         have z1 := g3 1
         have c2 := g2 2 _ rfl
         have z2 := g3 2
         have c3 := g2 3 _ rfl
         have z3 := g3 3
         have c4 := g2 4 _ rfl
         have z4 := g3 4
         have c5 := g2 5 _ rfl
         have z5 := g3 5
         simp only [Nat.zero_add] at c0 c1 c2 c3 c4 c5
         clear g2 g3
         refine wpAny_of_held (S := fun _ => True) _ _ _ _ ?_
         refine rdH [9] ?_
         refine rcH (fun K hK => ?_) AllReadyH.nil
         simp only [fillT,f7,f8]
         try go_frame
         go_simp
         refine hK.out _ _ trivial (fun _ => ?_)
         clear hK K
         try go_frame
         refine wpAnyH_done (by kernel_rfl) ?_ _
         go_wp2_with fail
         go_meet
         have hsB : P3.heap.size <= w2.heap.size := by simpa using hb.size
         obtain ⟨y1,y2⟩ := ClB.fill (n := ⟨#[65]⟩) (s := ⟨#[66,97,115,101]⟩) (k := 1) (is := []) (B := P3.heap.size) a3 (by omega) (RdX.nil _ _ (fun _ => False) _) HJ.out HQ2.out.1 HQ2.out.2 (by omega) (by omega) (fun b h => h.elim) (fun b h => by have h1 : (g 2).2.1 <= b := h.1; have h2 : b < (g 2).2.2 := h.2; refine ⟨?_,?_,?_⟩ <;> omega) (fun b h => by have h1 : (g 5).2.1 <= b := h.1; have h2 : b < (g 5).2.2 := h.2; refine ⟨?_,?_,?_⟩ <;> omega) rfl
         have hbl := ((below_drU P3).trans hb).trans (Kpt.below y2 (fun x hx => by simp at hx; omega) hsB)
         exact ⟨_,_,_,_,_,_,rfl,by simp,y1,hbl⟩
       case rest =>
        obtain ⟨tb2,gF2,p,n,c,rs,rfl,hlo,hC,hB⟩ := hcut
        rename World => P4
        have HC := hid hC
        have HB := hid hB
        clear hC hB
        go_upto_region 9 with fail
        go_cut [61] from 58 to 61 (fun s wx => ∃ bv : Bool,s = .bool bv /\ bv = bitS k0 2 /\ wx = P4)
        case first =>
         obtain ⟨-,hkc,-⟩ := boxN (((HBS.out.trans (HB.out.mono HBS.out.size)).block _ hltK).trans HXK.out)
         have hk0 := hkc 0 _ rfl
         simp only [Nat.zero_add] at hk0
         clear hkc
         by_cases hb : k0 / 2 ^ 2 % 2 = 1
         ·have hbb : bits BinOp.and IntKind.u8 (k0 : Int) 4 = 4 := by have := bit_at h0 2 (by decide); rw [if_pos hb] at this; exact this
          have HW := hid (show true = bitS k0 2 by unfold bitS; rw [decide_eq_true hb])
          clear hb
          go_wp2_with fail
          go_meet
          exact ⟨_,rfl,HW.out,rfl⟩
         ·have hbb : bits BinOp.and IntKind.u8 (k0 : Int) 4 = 0 := by have := bit_at h0 2 (by decide); rw [if_neg hb] at this; exact this
          have HW := hid (show false = bitS k0 2 by unfold bitS; rw [decide_eq_false hb])
          clear hb
          go_wp2_with fail
          go_meet
          exact ⟨_,rfl,HW.out,rfl⟩
        case rest =>
         obtain ⟨bv,rfl,hbv,rfl⟩ := hcut
         rename World => P4
         have HV := hid hbv
         clear hbv
         go_upto_if 61 with fail
         go_cut [] from 62 to 67 (fun wx => ∃ p n c rs,rs.length <= 2 /\ ClB wx P3.heap.size tb2 (.slice none 0 0) (.slice (some ⟨gF2,0,none⟩) 1 1) (.slice p n c) rs ⟨⟨#[65]⟩,⟨#[66,97,115,101]⟩,[],1,[(⟨#[99,111,117,110,116]⟩,tI,true)],[runS ⟨#[65]⟩ k1] ++ whenS (bitS k0 2) [clinitS ⟨#[97]⟩]⟩ /\ Below P3.heap.size P3 wx)
         case first =>
          cases bv with
          | true =>
           have HW : Hid (whenS (bitS k0 2) [clinitS ⟨#[97]⟩] = [clinitS ⟨#[97]⟩]) := hid (by unfold whenS; rw [<- HV.out]; rfl)
           go_wp2_with fail
           have hCx := HC.out.below (below_drU P4)
           have hBx : Below P3.heap.size P3 P4.drew := HB.out.trans ((below_drU P4).mono HB.out.size)
           obtain ⟨t1,t2,t3⟩ := hCx.cells
           go_region_law (first
            | (refine step_appM inf_mth (shape_raw 9) (by rfl) _ _ (by rfl) P3.heap.size _ rs (by rfl) hCc.2.2.2.2.1 _ 0 1 1 [rX] (by rfl) hsrc.out (by simp <;> omega) hBc ?_; intro v3 w3 ho3 hg3 hl3; obtain ⟨e1,e2,e3,hC5,hB5⟩ := hCc.app hBc hmX.out ho3 hg3 hl3; obtain ⟨p3,n3,c3,hv3⟩ := ho3.slice; subst hv3; have HC5 := hid hC5; have HB5 := hid hB5; clear hC5 hB5 ho3 hg3 hl3)
            | (rw [if_pos (by rfl)]; go_simp; go_at_call 24; refine (clinit_v _ _).mono ?_; rintro e wx ⟨pp,np,cp,pc,nc,cc,ph,nh,ch,rfl,g1,g2,g3,hbx⟩; have hm0 : mP (okT P3.heap.size tb2 (.slice p n c)) wx [.string (clinitS ⟨#[97]⟩).name,.slice pp np cp,.int .i64 (clinitS ⟨#[97]⟩).ret.1,.string (clinitS ⟨#[97]⟩).ret.2,.bool (clinitS ⟨#[97]⟩).st,.bool (clinitS ⟨#[97]⟩).ab,.int .i64 (clinitS ⟨#[97]⟩).locals,.slice pc nc cc,.slice ph nh ch] (clinitS ⟨#[97]⟩) := mP.grow _ _ _ _ _ _ (show mP (fun b => P4.drew.heap.size <= b) wx [.string (clinitS ⟨#[97]⟩).name,.slice pp np cp,.int .i64 (clinitS ⟨#[97]⟩).ret.1,.string (clinitS ⟨#[97]⟩).ret.2,.bool (clinitS ⟨#[97]⟩).st,.bool (clinitS ⟨#[97]⟩).ab,.int .i64 (clinitS ⟨#[97]⟩).locals,.slice pc nc cc,.slice ph nh ch] (clinitS ⟨#[97]⟩) from ⟨_,_,_,rfl,g1,g2,g3⟩) (fun b hb _ => hCx.okNew hBx.size b hb) (fun _ _ _ => rfl) (Nat.le_refl _); have hm := hid hm0; clear g1 g2 g3 hm0; replace hBx := hBx.trans (hbx.mono hBx.size); replace hCx := hCx.below hbx; clear hbx; obtain ⟨t1,t2,t3⟩ := hCx.cells; obtain ⟨rX,hsrc0,hCc,hBc,hmX0,hbl⟩ := hCx.ready hBx.size _ (clinitS ⟨#[97]⟩) hm.out #[.string (clinitS ⟨#[97]⟩).name,.slice pp np cp,.int .i64 (clinitS ⟨#[97]⟩).ret.1,.string (clinitS ⟨#[97]⟩).ret.2,.bool (clinitS ⟨#[97]⟩).st,.bool (clinitS ⟨#[97]⟩).ab,.int .i64 (clinitS ⟨#[97]⟩).locals,.slice pc nc cc,.slice ph nh ch] rfl; have hsrc := hid hsrc0; have hmX := hid hmX0; have HBX2 := hid (hBx.trans hbl); clear hsrc0 hmX0 hbl; obtain ⟨d1,d2,d3⟩ := hCc.cells))
           all_goals
            go_wp2_with fail
            go_meet
            refine ⟨_,_,_,_,?_,by rw [HW.out]; exact HC5.out,HBX2.out.trans HB5.out⟩
            rw [List.length_append]
            simp only [List.length_cons,List.length_nil]
            omega
          | false =>
           have HW : Hid (whenS (bitS k0 2) [clinitS ⟨#[97]⟩] = []) := hid (by unfold whenS; rw [<- HV.out]; rfl)
           go_wp2_with fail
           go_meet
           exact ⟨_,_,_,_,Nat.le_succ_of_le hlo,by rw [HW.out,List.append_nil]; exact HC.out,HB.out⟩
         case rest =>
          clear HC HB hlo
          obtain ⟨p,n,c,rs,hlo,hC,hB⟩ := hcut
          rename World => P5
          have HC := hid hC
          have HB := hid hB
          clear hC hB
          replace HD1 := hid (HD1.out.below HB.out)
          have HZ2 := hid (show w.heap.size <= P3.heap.size by have := HBS.out.size; omega)
          have HD2 := HC
          replace HBS := hid (HBS.out.trans (HB.out.mono HBS.out.size))
          clear HB HC hlo
          go_upto_region 11 with fail
          go_cut [6] from 68 to 75 (fun s wx => ∃ tb3,s = .pointer (some ⟨tb3,0,none⟩) /\ ClB wx P5.heap.size tb3 (.slice none 0 0) (.slice none 0 0) (.slice none 0 0) [] ⟨⟨#[66]⟩,⟨#[65]⟩,[],(if bitS k0 3 then 3 else 1),[],[]⟩ /\ Below P5.heap.size P5 wx)
          case first =>
           obtain ⟨-,hkc,-⟩ := boxN ((HBS.out.block _ hltK).trans HXK.out)
           have hk0 := hkc 0 _ rfl
           simp only [Nat.zero_add] at hk0
           clear hkc
           obtain ⟨-,hkc,-⟩ := boxN ((((HBS.out.trans ((below_alM P5 (.cells #[.int .i64 1,.int .i64 3] 3)).mono HBS.out.size)).block _ hltK).trans HXK.out))
           have hk1 := hkc 0 _ rfl
           simp only [Nat.zero_add] at hk1
           clear hkc
           rcases (show (k0 : Int) / 8 % 2 = 0 ∨ (k0 : Int) / 8 % 2 = 1 by omega) with hi | hi
           ·have HW := hid (show bitS k0 3 = false by unfold bitS; exact decide_eq_false (by omega))
            go_wp2_with fail
            go_meet
            obtain ⟨y1,y2⟩ := ClB.make (n := ⟨#[66]⟩) (s := ⟨#[65]⟩) (k := 1) (is := []) (fs := []) (ms := []) (w := P5.alloc (.cells #[.int .i64 1,.int .i64 3] 3)) (tb := P5.heap.size + 1) (by simp) (below_alM P5 _).size (RdX.nil _ _ _ _) (RdX.nil _ _ _ _) (OwnX.nil _ _ _ _ _) trivial
            exact ⟨_,rfl,by rw [HW.out]; exact y1,(below_alM P5 _).trans y2⟩
           ·have HW := hid (show bitS k0 3 = true by unfold bitS; exact decide_eq_true (by omega))
            go_wp2_with fail
            go_meet
            obtain ⟨y1,y2⟩ := ClB.make (n := ⟨#[66]⟩) (s := ⟨#[65]⟩) (k := 3) (is := []) (fs := []) (ms := []) (w := P5.alloc (.cells #[.int .i64 1,.int .i64 3] 3)) (tb := P5.heap.size + 1) (by simp) (below_alM P5 _).size (RdX.nil _ _ _ _) (RdX.nil _ _ _ _) (OwnX.nil _ _ _ _ _) trivial
            exact ⟨_,rfl,by rw [HW.out]; exact y1,(below_alM P5 _).trans y2⟩
          case rest =>
           obtain ⟨tb3,rfl,hC,hB⟩ := hcut
           rename World => P6
           have HC := hid hC
           have HB := hid hB
           clear hC hB
           have hlo : ([] : List (Raw 9)).length <= 0 := Nat.le_refl _
           go_upto_region 12 with fail
           go_cut [79] from 76 to 79 (fun s wx => ∃ bv : Bool,s = .bool bv /\ bv = bitS k0 4 /\ wx = P6)
           case first =>
            obtain ⟨-,hkc,-⟩ := boxN (((HBS.out.trans (HB.out.mono HBS.out.size)).block _ hltK).trans HXK.out)
            have hk0 := hkc 0 _ rfl
            simp only [Nat.zero_add] at hk0
            clear hkc
            by_cases hb : k0 / 2 ^ 4 % 2 = 1
            ·have hbb : bits BinOp.and IntKind.u8 (k0 : Int) 16 = 16 := by have := bit_at h0 4 (by decide); rw [if_pos hb] at this; exact this
             have HW := hid (show true = bitS k0 4 by unfold bitS; rw [decide_eq_true hb])
             clear hb
             go_wp2_with fail
             go_meet
             exact ⟨_,rfl,HW.out,rfl⟩
            ·have hbb : bits BinOp.and IntKind.u8 (k0 : Int) 16 = 0 := by have := bit_at h0 4 (by decide); rw [if_neg hb] at this; exact this
             have HW := hid (show false = bitS k0 4 by unfold bitS; rw [decide_eq_false hb])
             clear hb
             go_wp2_with fail
             go_meet
             exact ⟨_,rfl,HW.out,rfl⟩
           case rest =>
            obtain ⟨bv,rfl,hbv,rfl⟩ := hcut
            rename World => P6
            have HV := hid hbv
            clear hbv
            go_upto_if 79 with fail
            go_cut [] from 80 to 87 (fun wx => ∃ p n c rs,rs.length <= 1 /\ ClB wx P5.heap.size tb3 (.slice none 0 0) (.slice none 0 0) (.slice p n c) rs ⟨⟨#[66]⟩,⟨#[65]⟩,[],(if bitS k0 3 then 3 else 1),[],[] ++ whenS (bitS k0 4) [runS ⟨#[66]⟩ k2]⟩ /\ Below P5.heap.size P5 wx)
            case first =>
             cases bv with
             | true =>
              have HW : Hid (whenS (bitS k0 4) [runS ⟨#[66]⟩ k2] = [runS ⟨#[66]⟩ k2]) := hid (by unfold whenS; rw [<- HV.out]; rfl)
              go_wp2_with fail
              obtain ⟨-,hkc,-⟩ := boxN ((((HBS.out.trans (HB.out.mono HBS.out.size)).trans ((below_drU P6).mono (Nat.le_trans HBS.out.size HB.out.size))).block _ hltK).trans HXK.out)
              have hk0 := hkc 2 _ rfl
              simp only [Nat.zero_add] at hk0
              clear hkc
              have hCx := HC.out.below (below_drU P6)
              have hBx : Below P5.heap.size P5 P6.drew := HB.out.trans ((below_drU P6).mono HB.out.size)
              obtain ⟨t1,t2,t3⟩ := hCx.cells
              go_region_law (first
               | (refine step_appM inf_mth (shape_raw 9) (by rfl) _ _ (by rfl) P5.heap.size _ [] (by rfl) hCc.2.2.2.2.1 _ 0 1 1 [rX] (by rfl) hsrc.out (by simp <;> omega) hBc ?_; intro v3 w3 ho3 hg3 hl3; obtain ⟨e1,e2,e3,hC5,hB5⟩ := hCc.app hBc hmX.out ho3 hg3 hl3; obtain ⟨p3,n3,c3,hv3⟩ := ho3.slice; subst hv3; have HC5 := hid hC5; have HB5 := hid hB5; clear hC5 hB5 ho3 hg3 hl3)
               | (rw [if_pos (by rfl)]; go_simp; go_at_call 64; refine (run_v _ _ _ h2).mono ?_; rintro e wx ⟨pp,np,cp,pc,nc,cc,ph,nh,ch,rfl,g1,g2,g3,hbx⟩; have hm0 : mP (okT P5.heap.size tb3 (.slice none 0 0)) wx [.string (runS ⟨#[66]⟩ k2).name,.slice pp np cp,.int .i64 (runS ⟨#[66]⟩ k2).ret.1,.string (runS ⟨#[66]⟩ k2).ret.2,.bool (runS ⟨#[66]⟩ k2).st,.bool (runS ⟨#[66]⟩ k2).ab,.int .i64 (runS ⟨#[66]⟩ k2).locals,.slice pc nc cc,.slice ph nh ch] (runS ⟨#[66]⟩ k2) := mP.grow _ _ _ _ _ _ (show mP (fun b => P6.drew.heap.size <= b) wx [.string (runS ⟨#[66]⟩ k2).name,.slice pp np cp,.int .i64 (runS ⟨#[66]⟩ k2).ret.1,.string (runS ⟨#[66]⟩ k2).ret.2,.bool (runS ⟨#[66]⟩ k2).st,.bool (runS ⟨#[66]⟩ k2).ab,.int .i64 (runS ⟨#[66]⟩ k2).locals,.slice pc nc cc,.slice ph nh ch] (runS ⟨#[66]⟩ k2) from ⟨_,_,_,rfl,g1,g2,g3⟩) (fun b hb _ => hCx.okNew hBx.size b hb) (fun _ _ _ => rfl) (Nat.le_refl _); have hm := hid hm0; clear g1 g2 g3 hm0; replace hBx := hBx.trans (hbx.mono hBx.size); replace hCx := hCx.below hbx; clear hbx; obtain ⟨t1,t2,t3⟩ := hCx.cells; obtain ⟨rX,hsrc0,hCc,hBc,hmX0,hbl⟩ := hCx.ready hBx.size _ (runS ⟨#[66]⟩ k2) hm.out #[.string (runS ⟨#[66]⟩ k2).name,.slice pp np cp,.int .i64 (runS ⟨#[66]⟩ k2).ret.1,.string (runS ⟨#[66]⟩ k2).ret.2,.bool (runS ⟨#[66]⟩ k2).st,.bool (runS ⟨#[66]⟩ k2).ab,.int .i64 (runS ⟨#[66]⟩ k2).locals,.slice pc nc cc,.slice ph nh ch] rfl; have hsrc := hid hsrc0; have hmX := hid hmX0; have HBX2 := hid (hBx.trans hbl); clear hsrc0 hmX0 hbl; obtain ⟨d1,d2,d3⟩ := hCc.cells))
              all_goals
               go_wp2_with fail
               go_meet
               refine ⟨_,_,_,_,?_,by rw [HW.out]; exact HC5.out,HBX2.out.trans HB5.out⟩
               rw [List.length_append]
               simp only [List.length_cons,List.length_nil]
               omega
             | false =>
              have HW : Hid (whenS (bitS k0 4) [runS ⟨#[66]⟩ k2] = []) := hid (by unfold whenS; rw [<- HV.out]; rfl)
              go_wp2_with fail
              go_meet
              exact ⟨_,_,_,_,Nat.le_succ_of_le hlo,by rw [HW.out,List.append_nil]; exact HC.out,HB.out⟩
            case rest =>
             clear HC HB hlo
             obtain ⟨p,n,c,rs,hlo,hC,hB⟩ := hcut
             rename World => P7
             have HC := hid hC
             have HB := hid hB
             clear hC hB
             go_upto_region 14 with fail
             go_cut [91] from 88 to 91 (fun s wx => ∃ bv : Bool,s = .bool bv /\ bv = bitS k0 5 /\ wx = P7)
             case first =>
              obtain ⟨-,hkc,-⟩ := boxN (((HBS.out.trans (HB.out.mono HBS.out.size)).block _ hltK).trans HXK.out)
              have hk0 := hkc 0 _ rfl
              simp only [Nat.zero_add] at hk0
              clear hkc
              by_cases hb : k0 / 2 ^ 5 % 2 = 1
              ·have hbb : bits BinOp.and IntKind.u8 (k0 : Int) 32 = 32 := by have := bit_at h0 5 (by decide); rw [if_pos hb] at this; exact this
               have HW := hid (show true = bitS k0 5 by unfold bitS; rw [decide_eq_true hb])
               clear hb
               go_wp2_with fail
               go_meet
               exact ⟨_,rfl,HW.out,rfl⟩
              ·have hbb : bits BinOp.and IntKind.u8 (k0 : Int) 32 = 0 := by have := bit_at h0 5 (by decide); rw [if_neg hb] at this; exact this
               have HW := hid (show false = bitS k0 5 by unfold bitS; rw [decide_eq_false hb])
               clear hb
               go_wp2_with fail
               go_meet
               exact ⟨_,rfl,HW.out,rfl⟩
             case rest =>
              obtain ⟨bv,rfl,hbv,rfl⟩ := hcut
              rename World => P7
              have HV := hid hbv
              clear hbv
              go_upto_if 91 with fail
              go_cut [] from 92 to 105 (fun wx => ∃ p n c rs,rs.length <= 2 /\ ClB wx P5.heap.size tb3 (.slice none 0 0) (.slice none 0 0) (.slice p n c) rs ⟨⟨#[66]⟩,⟨#[65]⟩,[],(if bitS k0 3 then 3 else 1),[],[] ++ whenS (bitS k0 4) [runS ⟨#[66]⟩ k2] ++ whenS (bitS k0 5) [mthS ⟨#[110,97,109,101]⟩ [] tS false 1 [iAt 4 0,iCall 37 ⟨#[65]⟩ ⟨#[110,97,109,101]⟩ ⟨#[40,41,83]⟩,iStr ⟨#[43,98]⟩,iOne 16,iOne 39]]⟩ /\ Below P5.heap.size P5 wx)
              case first =>
               cases bv with
               | true =>
                have HW : Hid (whenS (bitS k0 5) [mthS ⟨#[110,97,109,101]⟩ [] tS false 1 [iAt 4 0,iCall 37 ⟨#[65]⟩ ⟨#[110,97,109,101]⟩ ⟨#[40,41,83]⟩,iStr ⟨#[43,98]⟩,iOne 16,iOne 39]] = [mthS ⟨#[110,97,109,101]⟩ [] tS false 1 [iAt 4 0,iCall 37 ⟨#[65]⟩ ⟨#[110,97,109,101]⟩ ⟨#[40,41,83]⟩,iStr ⟨#[43,98]⟩,iOne 16,iOne 39]]) := hid (by unfold whenS; rw [<- HV.out]; rfl)
                go_wp2_with fail
                have hCx := HC.out.below (below_drU P7)
                have hBx : Below P5.heap.size P5 P7.drew := HB.out.trans ((below_drU P7).mono HB.out.size)
                obtain ⟨t1,t2,t3⟩ := hCx.cells
                go_region_law (first
                 | (refine step_appM inf_mth (shape_raw 9) (by rfl) _ _ (by rfl) P5.heap.size _ rs (by rfl) hCc.2.2.2.2.1 _ 0 1 1 [rX] (by rfl) hsrc.out (by simp <;> omega) hBc ?_; intro v3 w3 ho3 hg3 hl3; obtain ⟨e1,e2,e3,hC5,hB5⟩ := hCc.app hBc hmX.out ho3 hg3 hl3; obtain ⟨p3,n3,c3,hv3⟩ := ho3.slice; subst hv3; have HC5 := hid hC5; have HB5 := hid hB5; clear hC5 hB5 ho3 hg3 hl3)
                 | (rw [if_pos (by rfl)]; go_simp; go_at_call 23; refine (typ_v _ _).mono ?_; rintro e wx ⟨rfl,hbx⟩; replace hBx := hBx.trans (hbx.mono hBx.size); replace hCx := hCx.below hbx; clear hbx t1 t2 t3; obtain ⟨t1,t2,t3⟩ := hCx.cells)
                 | (rw [if_pos (by rfl)]; go_simp; go_at_call 28; refine (at_x _ _ _).mono ?_; rintro e wx ⟨rfl,hbx⟩; replace hBx := hBx.trans (hbx.mono hBx.size); replace hCx := hCx.below hbx; clear hbx t1 t2 t3; obtain ⟨t1,t2,t3⟩ := hCx.cells)
                 | (rw [if_pos (by rfl)]; go_simp; go_at_call 65; refine (call_x _ _ _ _ _).mono ?_; rintro e wx ⟨rfl,hbx⟩; replace hBx := hBx.trans (hbx.mono hBx.size); replace hCx := hCx.below hbx; clear hbx t1 t2 t3; obtain ⟨t1,t2,t3⟩ := hCx.cells)
                 | (rw [if_pos (by rfl)]; go_simp; go_at_call 61; refine (str_x _ _).mono ?_; rintro e wx ⟨rfl,hbx⟩; replace hBx := hBx.trans (hbx.mono hBx.size); replace hCx := hCx.below hbx; clear hbx t1 t2 t3; obtain ⟨t1,t2,t3⟩ := hCx.cells)
                 | (rw [if_pos (by rfl)]; go_simp; go_at_call 27; refine (one_x _ _).mono ?_; rintro e wx ⟨rfl,hbx⟩; replace hBx := hBx.trans (hbx.mono hBx.size); replace hCx := hCx.below hbx; clear hbx t1 t2 t3; obtain ⟨t1,t2,t3⟩ := hCx.cells)
                 | (rw [if_pos (by rfl)]; go_simp; go_at_call 25; refine (method_v _ none _ 0 0 _ _ _ _ _ _ _).mono ?_; rintro e wy ⟨rfl,hbm⟩; have hq := rd_lit_next (c := insC) hbm [iAt 4 0,iCall 37 ⟨#[65]⟩ ⟨#[110,97,109,101]⟩ ⟨#[40,41,83]⟩,iStr ⟨#[43,98]⟩,iOne 16,iOne 39] rfl insC_len (okT P5.heap.size tb3 (.slice p n c)) (hCx.okNew hBx.size _ (Nat.le_refl _)) 5 rfl; have hm : Hid (mP (okT P5.heap.size tb3 (.slice p n c)) wy [.string ⟨#[110,97,109,101]⟩,.slice none 0 0,.int .i64 2,.string ⟨#[]⟩,.bool false,.bool false,.int .i64 1,.slice (some ⟨wx.heap.size,0,none⟩) 5 5,.slice none 0 0] (mthS ⟨#[110,97,109,101]⟩ [] tS false 1 [iAt 4 0,iCall 37 ⟨#[65]⟩ ⟨#[110,97,109,101]⟩ ⟨#[40,41,83]⟩,iStr ⟨#[43,98]⟩,iOne 16,iOne 39])) := hid ⟨_,_,_,rfl,RdX.nil _ _ _ _,hq,RdX.nil _ _ _ _⟩; have hbx := (below_alM wx _).trans (hbm.mono (below_alM wx _).size); clear hq hbm t1 t2 t3; replace hBx := hBx.trans (hbx.mono hBx.size); replace hCx := hCx.below hbx; clear hbx; obtain ⟨t1,t2,t3⟩ := hCx.cells; obtain ⟨rX,hsrc0,hCc,hBc,hmX0,hbl⟩ := hCx.ready hBx.size _ (mthS ⟨#[110,97,109,101]⟩ [] tS false 1 [iAt 4 0,iCall 37 ⟨#[65]⟩ ⟨#[110,97,109,101]⟩ ⟨#[40,41,83]⟩,iStr ⟨#[43,98]⟩,iOne 16,iOne 39]) hm.out #[.string ⟨#[110,97,109,101]⟩,.slice none 0 0,.int .i64 2,.string ⟨#[]⟩,.bool false,.bool false,.int .i64 1,.slice (some ⟨wx.heap.size,0,none⟩) 5 5,.slice none 0 0] rfl; have hsrc := hid hsrc0; have hmX := hid hmX0; have HBX2 := hid (hBx.trans hbl); clear hsrc0 hmX0 hbl; obtain ⟨d1,d2,d3⟩ := hCc.cells))
                all_goals
                 go_wp2_with fail
                 go_meet
                 refine ⟨_,_,_,_,?_,by rw [HW.out]; exact HC5.out,HBX2.out.trans HB5.out⟩
                 rw [List.length_append]
                 simp only [List.length_cons,List.length_nil]
                 omega
               | false =>
                have HW : Hid (whenS (bitS k0 5) [mthS ⟨#[110,97,109,101]⟩ [] tS false 1 [iAt 4 0,iCall 37 ⟨#[65]⟩ ⟨#[110,97,109,101]⟩ ⟨#[40,41,83]⟩,iStr ⟨#[43,98]⟩,iOne 16,iOne 39]] = []) := hid (by unfold whenS; rw [<- HV.out]; rfl)
                go_wp2_with fail
                go_meet
                exact ⟨_,_,_,_,Nat.le_succ_of_le hlo,by rw [HW.out,List.append_nil]; exact HC.out,HB.out⟩
              case rest =>
               clear HC HB hlo
               obtain ⟨p,n,c,rs,hlo,hC,hB⟩ := hcut
               rename World => P8
               have HC := hid hC
               have HB := hid hB
               clear hC hB
               replace HD1 := hid (HD1.out.below HB.out)
               replace HD2 := hid (HD2.out.below HB.out)
               have HZ3 := hid (show w.heap.size <= P5.heap.size by have := HBS.out.size; omega)
               have HD3 := HC
               replace HBS := hid (HBS.out.trans (HB.out.mono HBS.out.size))
               clear HB HC hlo
               go_upto_region 16 with fail
               go_cut [7] from 106 to 109 (fun s wx => ∃ tb4 gF4,s = .pointer (some ⟨tb4,0,none⟩) /\ ClB wx P8.heap.size tb4 (.slice none 0 0) (.slice (some ⟨gF4,0,none⟩) 1 1) (.slice none 0 0) [] ⟨⟨#[77,105,100]⟩,⟨#[66,97,115,101]⟩,[],2,[(⟨#[109]⟩,tI,false)],[]⟩ /\ Below P8.heap.size P8 wx)
               case first =>
                go_wp2_with fail
                refine (typ_v _ _).mono ?_
                rintro e wa ⟨rfl,hba⟩
                go_wp2_with fail
                go_meet
                have hF := rd_lit_next (c := fldC) (sz := 4) (T := 87) (cs := #[.string ⟨#[109]⟩,.int .i64 1,.string ⟨#[]⟩,.bool false]) (Below.refl _ _) [(⟨#[109]⟩,tI,false)] rfl (fun _ => rfl) (fun b => P8.heap.size <= b /\ (Value.slice none 0 0).ownBlock ≠ some b) ⟨hba.size,by simp [Value.ownBlock]⟩ 1 rfl
                obtain ⟨y1,y2⟩ := ClB.make (is := []) (ms := []) (tb := wa.heap.size + 1) (by simp) (Nat.le_trans hba.size (below_alM wa _).size) (RdX.nil _ _ _ _) hF (OwnX.nil _ _ _ _ _) trivial
                exact ⟨_,_,rfl,y1,(hba.trans ((below_alM wa _).mono hba.size)).trans y2⟩
               case rest =>
                obtain ⟨tb4,gF4,rfl,hC,hB⟩ := hcut
                rename World => P9
                have HC := hid hC
                have HB := hid hB
                clear hC hB
                go_upto_region 17 with fail
                go_cut [113] from 110 to 113 (fun s wx => ∃ bv : Bool,s = .bool bv /\ bv = bitS k0 6 /\ wx = P9)
                case first =>
                 obtain ⟨-,hkc,-⟩ := boxN (((HBS.out.trans (HB.out.mono HBS.out.size)).block _ hltK).trans HXK.out)
                 have hk0 := hkc 0 _ rfl
                 simp only [Nat.zero_add] at hk0
                 clear hkc
                 by_cases hb : k0 / 2 ^ 6 % 2 = 1
                 ·have hbb : bits BinOp.and IntKind.u8 (k0 : Int) 64 = 64 := by have := bit_at h0 6 (by decide); rw [if_pos hb] at this; exact this
                  have HW := hid (show true = bitS k0 6 by unfold bitS; rw [decide_eq_true hb])
                  clear hb
                  go_wp2_with fail
                  go_meet
                  exact ⟨_,rfl,HW.out,rfl⟩
                 ·have hbb : bits BinOp.and IntKind.u8 (k0 : Int) 64 = 0 := by have := bit_at h0 6 (by decide); rw [if_neg hb] at this; exact this
                  have HW := hid (show false = bitS k0 6 by unfold bitS; rw [decide_eq_false hb])
                  clear hb
                  go_wp2_with fail
                  go_meet
                  exact ⟨_,rfl,HW.out,rfl⟩
                case rest =>
                 obtain ⟨bv,rfl,hbv,rfl⟩ := hcut
                 rename World => P9
                 have HV := hid hbv
                 clear hbv
                 go_upto_if 113 with fail
                 go_cut [] from 114 to 115 (fun wx => ∃ pi ni ci,ClB wx P8.heap.size tb4 (.slice pi ni ci) (.slice (some ⟨gF4,0,none⟩) 1 1) (.slice none 0 0) [] ⟨⟨#[77,105,100]⟩,⟨#[66,97,115,101]⟩,whenS (α := ByteArray) (bitS k0 6) [⟨#[74]⟩],2,[(⟨#[109]⟩,tI,false)],[]⟩ /\ Below P8.heap.size P8 wx)
                 case first =>
                  cases bv with
                  | true =>
                   have HW : Hid (whenS (α := ByteArray) (bitS k0 6) [⟨#[74]⟩] = [⟨#[74]⟩]) := hid (by unfold whenS; rw [<- HV.out]; rfl)
                   obtain ⟨q1,q2,q3⟩ := boxN HC.out.1
                   have q4 := q2 2 _ rfl
                   simp only [Nat.zero_add] at q4
                   have q5 := q3 2
                   clear q2 q3
                   go_wp2_with fail
                   go_meet
                   obtain ⟨y1,y2⟩ := HC.out.ifs HB.out.size [⟨#[74]⟩] _ rfl 1 rfl
                   exact ⟨_,_,_,by rw [HW.out]; exact y1,HB.out.trans y2⟩
                  | false =>
                   have HW : Hid (whenS (α := ByteArray) (bitS k0 6) [⟨#[74]⟩] = []) := hid (by unfold whenS; rw [<- HV.out]; rfl)
                   go_wp2_with fail
                   go_meet
                   exact ⟨_,_,_,by rw [HW.out]; exact HC.out,HB.out⟩
                 case rest =>
                  clear HC HB
                  obtain ⟨pi,ni,ci,hC,hB⟩ := hcut
                  rename World => P10
                  have HC := hid hC
                  have HB := hid hB
                  clear hC hB
                  have hlo : True := trivial
                  replace HD1 := hid (HD1.out.below HB.out)
                  replace HD2 := hid (HD2.out.below HB.out)
                  replace HD3 := hid (HD3.out.below HB.out)
                  have HZ4 := hid (show w.heap.size <= P8.heap.size by have := HBS.out.size; omega)
                  have HD4 := HC
                  replace HBS := hid (HBS.out.trans (HB.out.mono HBS.out.size))
                  clear HB HC hlo
                  go_upto_region 19 with fail
                  go_cut [8] from 116 to 127 (fun s wx => ∃ tb5 p n c rs,s = .pointer (some ⟨tb5,0,none⟩) /\ rs.length <= 2 /\ ClB wx P10.heap.size tb5 (.slice none 0 0) (.slice none 0 0) (.slice p n c) rs ⟨⟨#[67]⟩,⟨#[77,105,100]⟩,[],1,[],[runS ⟨#[67]⟩ k3,mthS ⟨#[101,120,116,114,97]⟩ [] tI false 1 [iAt 4 0,iPart 26 ⟨#[77,105,100]⟩ ⟨#[109]⟩,iOne 39]]⟩ /\ Below P10.heap.size P10 wx)
                  case first =>
                   obtain ⟨-,hkc,-⟩ := boxN ((HBS.out.block _ hltK).trans HXK.out)
                   have hk0 := hkc 3 _ rfl
                   simp only [Nat.zero_add] at hk0
                   clear hkc
                   go_wp2_with fail
                   refine (run_v _ _ _ h3).mono ?_
                   rintro e wr ⟨pp,np,cp,pc,nc,cc,ph,nh,ch,rfl,g1,g2,g3,hbb⟩
                   have HM : Hid (mP (fun b => P10.heap.size <= b) wr [.string (runS ⟨#[67]⟩ k3).name,.slice pp np cp,.int .i64 (runS ⟨#[67]⟩ k3).ret.1,.string (runS ⟨#[67]⟩ k3).ret.2,.bool (runS ⟨#[67]⟩ k3).st,.bool (runS ⟨#[67]⟩ k3).ab,.int .i64 (runS ⟨#[67]⟩ k3).locals,.slice pc nc cc,.slice ph nh ch] (runS ⟨#[67]⟩ k3)) := hid ⟨_,_,_,rfl,g1,g2,g3⟩
                   have HB := hid hbb
                   clear g1 g2 g3 hbb
                   go_wp2_with fail
                   refine (typ_v _ _).mono ?_
                   rintro e wz0 ⟨rfl,hbb⟩
                   replace HM := hid (mP.grow _ _ _ _ _ _ HM.out (fun _ h _ => h) (.of_below hbb) hbb.size)
                   replace HB := hid (HB.out.trans (hbb.mono HB.out.size))
                   clear hbb
                   go_wp2_with fail
                   refine (at_x _ _ _).mono ?_
                   rintro e wz1 ⟨rfl,hbb⟩
                   replace HM := hid (mP.grow _ _ _ _ _ _ HM.out (fun _ h _ => h) (.of_below hbb) hbb.size)
                   replace HB := hid (HB.out.trans (hbb.mono HB.out.size))
                   clear hbb
                   go_wp2_with fail
                   refine (part_x _ _ _ _).mono ?_
                   rintro e wz2 ⟨rfl,hbb⟩
                   replace HM := hid (mP.grow _ _ _ _ _ _ HM.out (fun _ h _ => h) (.of_below hbb) hbb.size)
                   replace HB := hid (HB.out.trans (hbb.mono HB.out.size))
                   clear hbb
                   go_wp2_with fail
                   refine (one_x _ _).mono ?_
                   rintro e wz3 ⟨rfl,hbb⟩
                   replace HM := hid (mP.grow _ _ _ _ _ _ HM.out (fun _ h _ => h) (.of_below hbb) hbb.size)
                   replace HB := hid (HB.out.trans (hbb.mono HB.out.size))
                   clear hbb
                   go_wp2_with fail
                   refine (method_v _ none _ 0 0 _ _ _ _ _ _ _).mono ?_
                   rintro e wm ⟨rfl,hbm⟩
                   have HQ := hid (rd_lit_next (c := insC) hbm [iAt 4 0,iPart 26 ⟨#[77,105,100]⟩ ⟨#[109]⟩,iOne 39] rfl insC_len (fun b => P10.heap.size <= b) HB.out.size 3 rfl)
                   have hbx := (below_alM wz3 _).trans (hbm.mono (below_alM wz3 _).size)
                   replace HM := hid (mP.grow _ _ _ _ _ _ HM.out (fun _ h _ => h) (.of_below hbx) hbx.size)
                   replace HB := hid (HB.out.trans (hbx.mono HB.out.size))
                   clear hbx hbm
                   go_wp2_with fail
                   go_meet
                   have hbm2 := below_alM wm
                   obtain ⟨y1,y2⟩ := ClB.make (n := ⟨#[67]⟩) (s := ⟨#[77,105,100]⟩) (k := 1) (is := []) (fs := []) (ms := [runS ⟨#[67]⟩ k3,mthS ⟨#[101,120,116,114,97]⟩ [] tI false 1 [iAt 4 0,iPart 26 ⟨#[77,105,100]⟩ ⟨#[109]⟩,iOne 39]]) (tb := wm.heap.size + 1) (by simp) (Nat.le_trans HB.out.size (below_alM wm _).size) (RdX.nil _ _ _ _) (RdX.nil _ _ _ _) ((OwnX.lits rawC_len wm [(⟨[.string (runS ⟨#[67]⟩ k3).name,.slice pp np cp,.int .i64 (runS ⟨#[67]⟩ k3).ret.1,.string (runS ⟨#[67]⟩ k3).ret.2,.bool (runS ⟨#[67]⟩ k3).st,.bool (runS ⟨#[67]⟩ k3).ab,.int .i64 (runS ⟨#[67]⟩ k3).locals,.slice pc nc cc,.slice ph nh ch],shape_mth _ _ _ _ HM.out⟩ : Raw 9),rawM ⟨#[101,120,116,114,97]⟩ none 0 0 1 ⟨#[]⟩ false 1 (some ⟨wz3.heap.size,0,none⟩) 3 3] _ rfl 2 rfl (by decide)).mono (sP.grow _) HB.out.size) ⟨mP.grow _ _ _ _ _ _ HM.out (fun b hb hl => ⟨hb,by simp [Value.ownBlock]; omega⟩) (.of_below (below_alM wm _)) (below_alM wm _).size,⟨_,_,_,rfl,RdX.nil _ _ _ _,HQ.out.step (sP.grow _) (fun b hb hl => ⟨hb,by simp [Value.ownBlock]; omega⟩) (.of_below (below_alM wm _)) (below_alM wm _).size,RdX.nil _ _ _ _⟩,trivial⟩
                   exact ⟨_,_,_,_,_,rfl,by simp,y1,(HB.out.trans ((below_alM wm _).mono HB.out.size)).trans y2⟩
                  case rest =>
                   obtain ⟨tb5,p,n,c,rs,rfl,hlo,hC,hB⟩ := hcut
                   rename World => P11
                   have HC := hid hC
                   have HB := hid hB
                   clear hC hB
                   go_upto_region 20 with fail
                   go_cut [131] from 128 to 131 (fun s wx => ∃ bv : Bool,s = .bool bv /\ bv = bitS k0 7 /\ wx = P11)
                   case first =>
                    obtain ⟨-,hkc,-⟩ := boxN (((HBS.out.trans (HB.out.mono HBS.out.size)).block _ hltK).trans HXK.out)
                    have hk0 := hkc 0 _ rfl
                    simp only [Nat.zero_add] at hk0
                    clear hkc
                    by_cases hb : k0 / 2 ^ 7 % 2 = 1
                    ·have hbb : bits BinOp.and IntKind.u8 (k0 : Int) 128 = 128 := by have := bit_at h0 7 (by decide); rw [if_pos hb] at this; exact this
                     have HW := hid (show true = bitS k0 7 by unfold bitS; rw [decide_eq_true hb])
                     clear hb
                     go_wp2_with fail
                     go_meet
                     exact ⟨_,rfl,HW.out,rfl⟩
                    ·have hbb : bits BinOp.and IntKind.u8 (k0 : Int) 128 = 0 := by have := bit_at h0 7 (by decide); rw [if_neg hb] at this; exact this
                     have HW := hid (show false = bitS k0 7 by unfold bitS; rw [decide_eq_false hb])
                     clear hb
                     go_wp2_with fail
                     go_meet
                     exact ⟨_,rfl,HW.out,rfl⟩
                   case rest =>
                    obtain ⟨bv,rfl,hbv,rfl⟩ := hcut
                    rename World => P11
                    have HV := hid hbv
                    clear hbv
                    go_upto_if 131 with fail
                    go_cut [] from 132 to 145 (fun wx => ∃ p n c rs,rs.length <= 3 /\ ClB wx P10.heap.size tb5 (.slice none 0 0) (.slice none 0 0) (.slice p n c) rs ⟨⟨#[67]⟩,⟨#[77,105,100]⟩,[],1,[],[runS ⟨#[67]⟩ k3,mthS ⟨#[101,120,116,114,97]⟩ [] tI false 1 [iAt 4 0,iPart 26 ⟨#[77,105,100]⟩ ⟨#[109]⟩,iOne 39]] ++ whenS (bitS k0 7) [mthS ⟨#[110,97,109,101]⟩ [] tS false 1 [iAt 4 0,iCall 37 ⟨#[77,105,100]⟩ ⟨#[110,97,109,101]⟩ ⟨#[40,41,83]⟩,iStr ⟨#[43,99]⟩,iOne 16,iOne 39]]⟩ /\ Below P10.heap.size P10 wx)
                    case first =>
                     cases bv with
                     | true =>
                      have HW : Hid (whenS (bitS k0 7) [mthS ⟨#[110,97,109,101]⟩ [] tS false 1 [iAt 4 0,iCall 37 ⟨#[77,105,100]⟩ ⟨#[110,97,109,101]⟩ ⟨#[40,41,83]⟩,iStr ⟨#[43,99]⟩,iOne 16,iOne 39]] = [mthS ⟨#[110,97,109,101]⟩ [] tS false 1 [iAt 4 0,iCall 37 ⟨#[77,105,100]⟩ ⟨#[110,97,109,101]⟩ ⟨#[40,41,83]⟩,iStr ⟨#[43,99]⟩,iOne 16,iOne 39]]) := hid (by unfold whenS; rw [<- HV.out]; rfl)
                      go_wp2_with fail
                      have hCx := HC.out.below (below_drU P11)
                      have hBx : Below P10.heap.size P10 P11.drew := HB.out.trans ((below_drU P11).mono HB.out.size)
                      obtain ⟨t1,t2,t3⟩ := hCx.cells
                      go_region_law (first
                       | (refine step_appM inf_mth (shape_raw 9) (by rfl) _ _ (by rfl) P10.heap.size _ rs (by rfl) hCc.2.2.2.2.1 _ 0 1 1 [rX] (by rfl) hsrc.out (by simp <;> omega) hBc ?_; intro v3 w3 ho3 hg3 hl3; obtain ⟨e1,e2,e3,hC5,hB5⟩ := hCc.app hBc hmX.out ho3 hg3 hl3; obtain ⟨p3,n3,c3,hv3⟩ := ho3.slice; subst hv3; have HC5 := hid hC5; have HB5 := hid hB5; clear hC5 hB5 ho3 hg3 hl3)
                       | (rw [if_pos (by rfl)]; go_simp; go_at_call 23; refine (typ_v _ _).mono ?_; rintro e wx ⟨rfl,hbx⟩; replace hBx := hBx.trans (hbx.mono hBx.size); replace hCx := hCx.below hbx; clear hbx t1 t2 t3; obtain ⟨t1,t2,t3⟩ := hCx.cells)
                       | (rw [if_pos (by rfl)]; go_simp; go_at_call 28; refine (at_x _ _ _).mono ?_; rintro e wx ⟨rfl,hbx⟩; replace hBx := hBx.trans (hbx.mono hBx.size); replace hCx := hCx.below hbx; clear hbx t1 t2 t3; obtain ⟨t1,t2,t3⟩ := hCx.cells)
                       | (rw [if_pos (by rfl)]; go_simp; go_at_call 65; refine (call_x _ _ _ _ _).mono ?_; rintro e wx ⟨rfl,hbx⟩; replace hBx := hBx.trans (hbx.mono hBx.size); replace hCx := hCx.below hbx; clear hbx t1 t2 t3; obtain ⟨t1,t2,t3⟩ := hCx.cells)
                       | (rw [if_pos (by rfl)]; go_simp; go_at_call 61; refine (str_x _ _).mono ?_; rintro e wx ⟨rfl,hbx⟩; replace hBx := hBx.trans (hbx.mono hBx.size); replace hCx := hCx.below hbx; clear hbx t1 t2 t3; obtain ⟨t1,t2,t3⟩ := hCx.cells)
                       | (rw [if_pos (by rfl)]; go_simp; go_at_call 27; refine (one_x _ _).mono ?_; rintro e wx ⟨rfl,hbx⟩; replace hBx := hBx.trans (hbx.mono hBx.size); replace hCx := hCx.below hbx; clear hbx t1 t2 t3; obtain ⟨t1,t2,t3⟩ := hCx.cells)
                       | (rw [if_pos (by rfl)]; go_simp; go_at_call 25; refine (method_v _ none _ 0 0 _ _ _ _ _ _ _).mono ?_; rintro e wy ⟨rfl,hbm⟩; have hq := rd_lit_next (c := insC) hbm [iAt 4 0,iCall 37 ⟨#[77,105,100]⟩ ⟨#[110,97,109,101]⟩ ⟨#[40,41,83]⟩,iStr ⟨#[43,99]⟩,iOne 16,iOne 39] rfl insC_len (okT P10.heap.size tb5 (.slice p n c)) (hCx.okNew hBx.size _ (Nat.le_refl _)) 5 rfl; have hm : Hid (mP (okT P10.heap.size tb5 (.slice p n c)) wy [.string ⟨#[110,97,109,101]⟩,.slice none 0 0,.int .i64 2,.string ⟨#[]⟩,.bool false,.bool false,.int .i64 1,.slice (some ⟨wx.heap.size,0,none⟩) 5 5,.slice none 0 0] (mthS ⟨#[110,97,109,101]⟩ [] tS false 1 [iAt 4 0,iCall 37 ⟨#[77,105,100]⟩ ⟨#[110,97,109,101]⟩ ⟨#[40,41,83]⟩,iStr ⟨#[43,99]⟩,iOne 16,iOne 39])) := hid ⟨_,_,_,rfl,RdX.nil _ _ _ _,hq,RdX.nil _ _ _ _⟩; have hbx := (below_alM wx _).trans (hbm.mono (below_alM wx _).size); clear hq hbm t1 t2 t3; replace hBx := hBx.trans (hbx.mono hBx.size); replace hCx := hCx.below hbx; clear hbx; obtain ⟨t1,t2,t3⟩ := hCx.cells; obtain ⟨rX,hsrc0,hCc,hBc,hmX0,hbl⟩ := hCx.ready hBx.size _ (mthS ⟨#[110,97,109,101]⟩ [] tS false 1 [iAt 4 0,iCall 37 ⟨#[77,105,100]⟩ ⟨#[110,97,109,101]⟩ ⟨#[40,41,83]⟩,iStr ⟨#[43,99]⟩,iOne 16,iOne 39]) hm.out #[.string ⟨#[110,97,109,101]⟩,.slice none 0 0,.int .i64 2,.string ⟨#[]⟩,.bool false,.bool false,.int .i64 1,.slice (some ⟨wx.heap.size,0,none⟩) 5 5,.slice none 0 0] rfl; have hsrc := hid hsrc0; have hmX := hid hmX0; have HBX2 := hid (hBx.trans hbl); clear hsrc0 hmX0 hbl; obtain ⟨d1,d2,d3⟩ := hCc.cells))
                      all_goals
                       go_wp2_with fail
                       go_meet
                       refine ⟨_,_,_,_,?_,by rw [HW.out]; exact HC5.out,HBX2.out.trans HB5.out⟩
                       rw [List.length_append]
                       simp only [List.length_cons,List.length_nil]
                       omega
                     | false =>
                      have HW : Hid (whenS (bitS k0 7) [mthS ⟨#[110,97,109,101]⟩ [] tS false 1 [iAt 4 0,iCall 37 ⟨#[77,105,100]⟩ ⟨#[110,97,109,101]⟩ ⟨#[40,41,83]⟩,iStr ⟨#[43,99]⟩,iOne 16,iOne 39]] = []) := hid (by unfold whenS; rw [<- HV.out]; rfl)
                      go_wp2_with fail
                      go_meet
                      exact ⟨_,_,_,_,Nat.le_succ_of_le hlo,by rw [HW.out,List.append_nil]; exact HC.out,HB.out⟩
                    case rest =>
                     clear HC HB hlo
                     obtain ⟨p,n,c,rs,hlo,hC,hB⟩ := hcut
                     rename World => P12
                     have HC := hid hC
                     have HB := hid hB
                     clear hC hB
                     replace HD1 := hid (HD1.out.below HB.out)
                     replace HD2 := hid (HD2.out.below HB.out)
                     replace HD3 := hid (HD3.out.below HB.out)
                     replace HD4 := hid (HD4.out.below HB.out)
                     have HZ5 := hid (show w.heap.size <= P10.heap.size by have := HBS.out.size; omega)
                     have HD5 := HC
                     replace HBS := hid (HBS.out.trans (HB.out.mono HBS.out.size))
                     clear HB HC hlo
                     go_upto_region 22 with fail
                     go_cut [9] from 146 to 159 (fun s wx => ∃ tb6 gI6 gF6 p n c rs,s = .pointer (some ⟨tb6,0,none⟩) /\ rs.length <= 1 /\ ClB wx P12.heap.size tb6 (.slice (some ⟨gI6,0,none⟩) 1 1) (.slice (some ⟨gF6,0,none⟩) 2 2) (.slice p n c) rs ⟨⟨#[68]⟩,⟨#[66,97,115,101]⟩,[⟨#[74]⟩],3,[(⟨#[119,97,115,116,101]⟩,tI,true),(⟨#[120]⟩,tS,false)],[runS ⟨#[68]⟩ ((k1 + k2) % 256)]⟩ /\ Below P12.heap.size P12 wx)
                     case first =>
                      refine wp_region_grow (by kernel_rfl) 15 0 [146,147,148,149,150,151,152,153,154,155,156,157,158,159,9] [(1,.pointer (some ⟨w.heap.size,0,none⟩))] fdL fdC (fdF k1 k2 w.heap.size) _ rfl (by kernel_rfl) (by simp) (fd_mono k1 k2 w.heap.size) (all15 ?_ ?_ ?_ ?_ ?_ ?_ ?_ ?_ ?_ ?_ ?_ ?_ ?_ ?_ ?_) ?_
                      ·intro o ho g w2 hb hf hr hd
                       simp only [List.getElem?_toArray,List.getElem?_cons_succ,List.getElem?_cons_zero,Option.some.injEq] at ho
                       subst ho
                       have ec : ∀ v,evL [(1,.pointer (some ⟨w.heap.size,0,none⟩))] (fdL 0) g (.const v) = v := fun _ => rfl
                       unfold Yld
                       go_simp
                       exact ⟨below_alM _ _,rfl,rd_lit_next (c := strC) (w := w2) (cs := #[.string ⟨#[74]⟩]) (T := 9) (Below.refl _ _) [⟨#[74]⟩] rfl (fun _ => rfl) (inR (undef,w2.heap.size,w2.heap.size + 1)) ⟨Nat.le_refl _,by (show w2.heap.size < w2.heap.size + 1; omega)⟩ 1 rfl⟩
                      ·intro o ho g w2 hb hf hr hd
                       simp only [List.getElem?_toArray,List.getElem?_cons_succ,List.getElem?_cons_zero,Option.some.injEq] at ho
                       subst ho
                       have ec : ∀ v,evL [(1,.pointer (some ⟨w.heap.size,0,none⟩))] (fdL 1) g (.const v) = v := fun _ => rfl
                       unfold Yld
                       go_simp
                       refine (typ_v _ _).mono ?_
                       rintro e w' ⟨rfl,hbb⟩
                       exact ⟨_,rfl,hbb,rfl⟩
                      ·intro o ho g w2 hb hf hr hd
                       simp only [List.getElem?_toArray,List.getElem?_cons_succ,List.getElem?_cons_zero,Option.some.injEq] at ho
                       subst ho
                       have f1 := hf 1 (by decide) (by rfl)
                       replace f1 : (g 1).1 = .agg #[.int .i64 1,.string ⟨#[]⟩] := f1
                       have e1 : evL [(1,.pointer (some ⟨w.heap.size,0,none⟩))] (fdL 2) g (.tmp 147) = (g 1).1 := rfl
                       rw [f1] at e1
                       have ec : ∀ v,evL [(1,.pointer (some ⟨w.heap.size,0,none⟩))] (fdL 2) g (.const v) = v := fun _ => rfl
                       unfold Yld
                       go_simp
                       exact ⟨Below.refl _ _,rfl⟩
                      ·intro o ho g w2 hb hf hr hd
                       simp only [List.getElem?_toArray,List.getElem?_cons_succ,List.getElem?_cons_zero,Option.some.injEq] at ho
                       subst ho
                       have ec : ∀ v,evL [(1,.pointer (some ⟨w.heap.size,0,none⟩))] (fdL 3) g (.const v) = v := fun _ => rfl
                       unfold Yld
                       go_simp
                       refine (typ_v _ _).mono ?_
                       rintro e w' ⟨rfl,hbb⟩
                       exact ⟨_,rfl,hbb,rfl⟩
                      ·intro o ho g w2 hb hf hr hd
                       simp only [List.getElem?_toArray,List.getElem?_cons_succ,List.getElem?_cons_zero,Option.some.injEq] at ho
                       subst ho
                       have f3 := hf 3 (by decide) (by rfl)
                       replace f3 : (g 3).1 = .agg #[.int .i64 2,.string ⟨#[]⟩] := f3
                       have e3 : evL [(1,.pointer (some ⟨w.heap.size,0,none⟩))] (fdL 4) g (.tmp 149) = (g 3).1 := rfl
                       rw [f3] at e3
                       have ec : ∀ v,evL [(1,.pointer (some ⟨w.heap.size,0,none⟩))] (fdL 4) g (.const v) = v := fun _ => rfl
                       unfold Yld
                       go_simp
                       exact ⟨Below.refl _ _,rfl⟩
                      ·intro o ho g w2 hb hf hr hd
                       simp only [List.getElem?_toArray,List.getElem?_cons_succ,List.getElem?_cons_zero,Option.some.injEq] at ho
                       subst ho
                       have f2 := hf 2 (by decide) (by rfl)
                       replace f2 : (g 2).1 = .agg #[.string ⟨#[119,97,115,116,101]⟩,.int .i64 1,.string ⟨#[]⟩,.bool true] := f2
                       have f4 := hf 4 (by decide) (by rfl)
                       replace f4 : (g 4).1 = .agg #[.string ⟨#[120]⟩,.int .i64 2,.string ⟨#[]⟩,.bool false] := f4
                       have e2 : evL [(1,.pointer (some ⟨w.heap.size,0,none⟩))] (fdL 5) g (.tmp 148) = (g 2).1 := rfl
                       rw [f2] at e2
                       have e4 : evL [(1,.pointer (some ⟨w.heap.size,0,none⟩))] (fdL 5) g (.tmp 150) = (g 4).1 := rfl
                       rw [f4] at e4
                       have ec : ∀ v,evL [(1,.pointer (some ⟨w.heap.size,0,none⟩))] (fdL 5) g (.const v) = v := fun _ => rfl
                       unfold Yld
                       go_simp
                       exact ⟨below_alM _ _,rfl,rd_lit_next (c := fldC) (w := w2) (cs := #[.string ⟨#[119,97,115,116,101]⟩,.int .i64 1,.string ⟨#[]⟩,.bool true,.string ⟨#[120]⟩,.int .i64 2,.string ⟨#[]⟩,.bool false]) (T := 87) (Below.refl _ _) [(⟨#[119,97,115,116,101]⟩,tI,true),(⟨#[120]⟩,tS,false)] rfl (fun _ => rfl) (inR (undef,w2.heap.size,w2.heap.size + 1)) ⟨Nat.le_refl _,by (show w2.heap.size < w2.heap.size + 1; omega)⟩ 2 rfl⟩
                      ·intro o ho g w2 hb hf hr hd
                       simp only [List.getElem?_toArray,List.getElem?_cons_succ,List.getElem?_cons_zero,Option.some.injEq] at ho
                       subst ho
                       have x1 : evL [(1,.pointer (some ⟨w.heap.size,0,none⟩))] (fdL 6) g (.tmp 1) = .pointer (some ⟨w.heap.size,0,none⟩) := rfl
                       have ec : ∀ v,evL [(1,.pointer (some ⟨w.heap.size,0,none⟩))] (fdL 6) g (.const v) = v := fun _ => rfl
                       unfold Yld
                       go_simp
                       exact ⟨Below.refl _ _,rfl⟩
                      ·intro o ho g w2 hb hf hr hd
                       simp only [List.getElem?_toArray,List.getElem?_cons_succ,List.getElem?_cons_zero,Option.some.injEq] at ho
                       subst ho
                       have f6 := hf 6 (by decide) (by rfl)
                       replace f6 : (g 6).1 = .pointer (some ⟨w.heap.size,1,none⟩) := f6
                       have e6 : evL [(1,.pointer (some ⟨w.heap.size,0,none⟩))] (fdL 7) g (.tmp 152) = (g 6).1 := rfl
                       rw [f6] at e6
                       have ec : ∀ v,evL [(1,.pointer (some ⟨w.heap.size,0,none⟩))] (fdL 7) g (.const v) = v := fun _ => rfl
                       unfold Yld
                       obtain ⟨-,hkc,-⟩ := boxN (((HBS.out.trans ((below_drU _).mono HBS.out.size)).trans (hb.mono (by have := HBS.out.size; simpa using this)) |>.block _ hltK).trans HXK.out)
                       have hk0 := hkc 1 _ rfl
                       simp only [Nat.zero_add] at hk0
                       clear hkc
                       go_simp
                       exact ⟨Below.refl _ _,rfl⟩
                      ·intro o ho g w2 hb hf hr hd
                       simp only [List.getElem?_toArray,List.getElem?_cons_succ,List.getElem?_cons_zero,Option.some.injEq] at ho
                       subst ho
                       have x1 : evL [(1,.pointer (some ⟨w.heap.size,0,none⟩))] (fdL 8) g (.tmp 1) = .pointer (some ⟨w.heap.size,0,none⟩) := rfl
                       have ec : ∀ v,evL [(1,.pointer (some ⟨w.heap.size,0,none⟩))] (fdL 8) g (.const v) = v := fun _ => rfl
                       unfold Yld
                       go_simp
                       exact ⟨Below.refl _ _,rfl⟩
                      ·intro o ho g w2 hb hf hr hd
                       simp only [List.getElem?_toArray,List.getElem?_cons_succ,List.getElem?_cons_zero,Option.some.injEq] at ho
                       subst ho
                       have f8 := hf 8 (by decide) (by rfl)
                       replace f8 : (g 8).1 = .pointer (some ⟨w.heap.size,2,none⟩) := f8
                       have e8 : evL [(1,.pointer (some ⟨w.heap.size,0,none⟩))] (fdL 9) g (.tmp 154) = (g 8).1 := rfl
                       rw [f8] at e8
                       have ec : ∀ v,evL [(1,.pointer (some ⟨w.heap.size,0,none⟩))] (fdL 9) g (.const v) = v := fun _ => rfl
                       unfold Yld
                       obtain ⟨-,hkc,-⟩ := boxN (((HBS.out.trans ((below_drU _).mono HBS.out.size)).trans (hb.mono (by have := HBS.out.size; simpa using this)) |>.block _ hltK).trans HXK.out)
                       have hk0 := hkc 2 _ rfl
                       simp only [Nat.zero_add] at hk0
                       clear hkc
                       go_simp
                       exact ⟨Below.refl _ _,rfl⟩
                      ·intro o ho g w2 hb hf hr hd
                       simp only [List.getElem?_toArray,List.getElem?_cons_succ,List.getElem?_cons_zero,Option.some.injEq] at ho
                       subst ho
                       have f7 := hf 7 (by decide) (by rfl)
                       replace f7 : (g 7).1 = .int .u8 (k1 : Int) := f7
                       have f9 := hf 9 (by decide) (by rfl)
                       replace f9 : (g 9).1 = .int .u8 (k2 : Int) := f9
                       have e7 : evL [(1,.pointer (some ⟨w.heap.size,0,none⟩))] (fdL 10) g (.tmp 153) = (g 7).1 := rfl
                       rw [f7] at e7
                       have e9 : evL [(1,.pointer (some ⟨w.heap.size,0,none⟩))] (fdL 10) g (.tmp 155) = (g 9).1 := rfl
                       rw [f9] at e9
                       have ec : ∀ v,evL [(1,.pointer (some ⟨w.heap.size,0,none⟩))] (fdL 10) g (.const v) = v := fun _ => rfl
                       unfold Yld
                       have hkk : ((((k1 + k2) % 256 : Nat)) : Int) = ((k1 : Int) + (k2 : Int)) % 256 := by omega
                       skip
                       go_simp
                       exact ⟨Below.refl _ _,rfl⟩
                      ·intro o ho g w2 hb hf hr hd
                       simp only [List.getElem?_toArray,List.getElem?_cons_succ,List.getElem?_cons_zero,Option.some.injEq] at ho
                       subst ho
                       have f10 := hf 10 (by decide) (by rfl)
                       replace f10 : (g 10).1 = .int .u8 (((k1 + k2) % 256 : Nat) : Int) := f10
                       have e10 : evL [(1,.pointer (some ⟨w.heap.size,0,none⟩))] (fdL 11) g (.tmp 156) = (g 10).1 := rfl
                       rw [f10] at e10
                       have ec : ∀ v,evL [(1,.pointer (some ⟨w.heap.size,0,none⟩))] (fdL 11) g (.const v) = v := fun _ => rfl
                       unfold Yld
                       go_simp
                       refine (run_v _ _ _ (Nat.mod_lt _ (by decide))).mono ?_
                       rintro e w' ⟨pp,np,cp,pc,nc,cc,ph,nh,ch,rfl,g1,g2,g3,hbx⟩
                       refine ⟨_,rfl,hbx,pp,np,cp,pc,nc,cc,ph,nh,ch,rfl,_,_,_,rfl,?_,?_,?_⟩
                       ·exact g1.step (sP.grow _) (fun b h1 h2 => ⟨h1,h2⟩) (fun _ _ _ => rfl) (Nat.le_refl _)
                       ·exact g2.step (sP.grow _) (fun b h1 h2 => ⟨h1,h2⟩) (fun _ _ _ => rfl) (Nat.le_refl _)
                       ·exact g3.step (sP.grow _) (fun b h1 h2 => ⟨h1,h2⟩) (fun _ _ _ => rfl) (Nat.le_refl _)
                      ·intro o ho g w2 hb hf hr hd
                       simp only [List.getElem?_toArray,List.getElem?_cons_succ,List.getElem?_cons_zero,Option.some.injEq] at ho
                       subst ho
                       have f11 := hf 11 (by decide) (by rfl)
                       replace f11 : ∃ pp np cp pc nc cc ph nh ch,(g 11).1 = .agg #[.string (runS ⟨#[68]⟩ ((k1 + k2) % 256)).name,.slice pp np cp,.int .i64 (runS ⟨#[68]⟩ ((k1 + k2) % 256)).ret.1,.string (runS ⟨#[68]⟩ ((k1 + k2) % 256)).ret.2,.bool (runS ⟨#[68]⟩ ((k1 + k2) % 256)).st,.bool (runS ⟨#[68]⟩ ((k1 + k2) % 256)).ab,.int .i64 (runS ⟨#[68]⟩ ((k1 + k2) % 256)).locals,.slice pc nc cc,.slice ph nh ch] /\ mP (inR (g 11)) w2 [.string (runS ⟨#[68]⟩ ((k1 + k2) % 256)).name,.slice pp np cp,.int .i64 (runS ⟨#[68]⟩ ((k1 + k2) % 256)).ret.1,.string (runS ⟨#[68]⟩ ((k1 + k2) % 256)).ret.2,.bool (runS ⟨#[68]⟩ ((k1 + k2) % 256)).st,.bool (runS ⟨#[68]⟩ ((k1 + k2) % 256)).ab,.int .i64 (runS ⟨#[68]⟩ ((k1 + k2) % 256)).locals,.slice pc nc cc,.slice ph nh ch] (runS ⟨#[68]⟩ ((k1 + k2) % 256)) := f11
                       obtain ⟨pp,np,cp,pc,nc,cc,ph,nh,ch,f11,hm⟩ := f11
                       have e11 : evL [(1,.pointer (some ⟨w.heap.size,0,none⟩))] (fdL 12) g (.tmp 157) = (g 11).1 := rfl
                       rw [f11] at e11
                       have ec : ∀ v,evL [(1,.pointer (some ⟨w.heap.size,0,none⟩))] (fdL 12) g (.const v) = v := fun _ => rfl
                       unfold Yld
                       go_simp
                       exact ⟨below_alM _ _,⟨_,shape_mth _ _ _ _ hm⟩,rfl,OwnX.lits rawC_len w2 [⟨_,shape_mth _ _ _ _ hm⟩] _ rfl 1 rfl (by decide),by (show w2.heap.size < w2.heap.size + 1; omega),mP.grow _ _ _ _ _ _ hm (fun _ h _ => h) (.of_below (below_alM w2 _)) (below_alM w2 _).size⟩
                      ·intro o ho g w2 hb hf hr hd
                       simp only [List.getElem?_toArray,List.getElem?_cons_succ,List.getElem?_cons_zero,Option.some.injEq] at ho
                       subst ho
                       have f0 := hf 0 (by decide) (by rfl)
                       replace f0 : (g 0).1 = .slice (some ⟨(g 0).2.1,0,none⟩) 1 1 /\ RdX 1 (sP strC) (inR (g 0)) w2 (g 0).1 [⟨#[74]⟩] := f0
                       replace f0 := f0.1
                       have f5 := hf 5 (by decide) (by rfl)
                       replace f5 : (g 5).1 = .slice (some ⟨(g 5).2.1,0,none⟩) 2 2 /\ RdX 4 (sP fldC) (inR (g 5)) w2 (g 5).1 [(⟨#[119,97,115,116,101]⟩,tI,true),(⟨#[120]⟩,tS,false)] := f5
                       replace f5 := f5.1
                       have f12 := hf 12 (by decide) (by rfl)
                       replace f12 : ∃ r : Raw 9,(g 12).1 = .slice (some ⟨(g 12).2.1,0,none⟩) 1 1 /\ OwnX 9 49 (sP rawC) w2 (g 12).2.1 (g 12).1 [r] /\ (g 12).2.1 < (g 12).2.2 /\ mP (inR (g 11)) w2 (rawC r) (runS ⟨#[68]⟩ ((k1 + k2) % 256)) := f12
                       obtain ⟨r12,f12,-⟩ := f12
                       have e0 : evL [(1,.pointer (some ⟨w.heap.size,0,none⟩))] (fdL 13) g (.tmp 146) = (g 0).1 := rfl
                       rw [f0] at e0
                       have e5 : evL [(1,.pointer (some ⟨w.heap.size,0,none⟩))] (fdL 13) g (.tmp 151) = (g 5).1 := rfl
                       rw [f5] at e5
                       have e12 : evL [(1,.pointer (some ⟨w.heap.size,0,none⟩))] (fdL 13) g (.tmp 158) = (g 12).1 := rfl
                       rw [f12] at e12
                       have ec : ∀ v,evL [(1,.pointer (some ⟨w.heap.size,0,none⟩))] (fdL 13) g (.const v) = v := fun _ => rfl
                       unfold Yld
                       go_simp
                       exact ⟨Below.refl _ _,rfl⟩
                      ·intro o ho g w2 hb hf hr hd
                       simp only [List.getElem?_toArray,List.getElem?_cons_succ,List.getElem?_cons_zero,Option.some.injEq] at ho
                       subst ho
                       have ec : ∀ v,evL [(1,.pointer (some ⟨w.heap.size,0,none⟩))] (fdL 14) g (.const v) = v := fun _ => rfl
                       unfold Yld
                       go_simp
                       exact ⟨below_alM _ _,rfl,by (show w2.heap.size < w2.heap.size + 1; omega),heap_alloc_new _ _⟩
                      ·intro fuel g w2 hb hf hr hd
                       have f0 : (g 0).1 = .slice (some ⟨(g 0).2.1,0,none⟩) 1 1 /\ RdX 1 (sP strC) (inR (g 0)) w2 (g 0).1 [⟨#[74]⟩] := hf 0 (by decide)
                       have f5 : (g 5).1 = .slice (some ⟨(g 5).2.1,0,none⟩) 2 2 /\ RdX 4 (sP fldC) (inR (g 5)) w2 (g 5).1 [(⟨#[119,97,115,116,101]⟩,tI,true),(⟨#[120]⟩,tS,false)] := hf 5 (by decide)
                       have f12 : ∃ r : Raw 9,(g 12).1 = .slice (some ⟨(g 12).2.1,0,none⟩) 1 1 /\ OwnX 9 49 (sP rawC) w2 (g 12).2.1 (g 12).1 [r] /\ (g 12).2.1 < (g 12).2.2 /\ mP (inR (g 11)) w2 (rawC r) (runS ⟨#[68]⟩ ((k1 + k2) % 256)) := hf 12 (by decide)
                       have f14 : (g 14).1 = .pointer (some ⟨(g 14).2.1,0,none⟩) /\ (g 14).2.1 < (g 14).2.2 /\ w2.heap[(g 14).2.1]? = some (.cells #[.string ⟨#[]⟩,.string ⟨#[]⟩,.slice none 0 0,.int .i64 0,.slice none 0 0,.slice none 0 0] 42 (0,0)) := hf 14 (by decide)
                       have f13 : (g 13).1 = .agg #[.string ⟨#[68]⟩,.string ⟨#[66,97,115,101]⟩,.slice (some ⟨(g 0).2.1,0,none⟩) 1 1,.int .i64 3,.slice (some ⟨(g 5).2.1,0,none⟩) 2 2,.slice (some ⟨(g 12).2.1,0,none⟩) 1 1] := hf 13 (by decide)
                       obtain ⟨f0,i2⟩ := f0
                       obtain ⟨f5,j2⟩ := f5
                       obtain ⟨r,f12,m2,m3,m4⟩ := f12
                       obtain ⟨f14,a2,a3⟩ := f14
                       have q0 := hr 0 (by decide)
                       have q5 := hr 5 (by decide)
                       have q12 := hr 12 (by decide)
                       have q11 := hr 11 (by decide)
                       have q14 := hr 14 (by decide)
                       have d0_5 := hd 0 5 (by decide) (by decide) (by decide)
                       have d0_12 := hd 0 12 (by decide) (by decide) (by decide)
                       have d0_11 := hd 0 11 (by decide) (by decide) (by decide)
                       have d0_14 := hd 0 14 (by decide) (by decide) (by decide)
                       have d5_12 := hd 5 12 (by decide) (by decide) (by decide)
                       have d5_11 := hd 5 11 (by decide) (by decide) (by decide)
                       have d5_14 := hd 5 14 (by decide) (by decide) (by decide)
                       have d11_12 := hd 11 12 (by decide) (by decide) (by decide)
                       have d12_14 := hd 12 14 (by decide) (by decide) (by decide)
                       have d11_14 := hd 11 14 (by decide) (by decide) (by decide)
                       rw [f0] at i2
                       rw [f5] at j2
                       rw [f12] at m2
                       clear hf hr hd
                       obtain ⟨vA,hvA⟩ : ∃ x,x = (g 14).1 := ⟨_,rfl⟩
                       have HQ2 := hid (And.intro m2 m4)
                       clear m2 m4
                       have HJ := hid j2
                       clear j2
                       have HI := hid i2
                       clear i2
                       obtain ⟨g1,g2,g3⟩ := boxN a3
                       have c0 := g2 0 _ rfl
                       have z0 := g3 0
                       have c1 := g2 1 _ rfl
                       have z1 := g3 1
                       have c2 := g2 2 _ rfl
                       have z2 := g3 2
                       have c3 := g2 3 _ rfl
                       have z3 := g3 3
                       have c4 := g2 4 _ rfl
                       have z4 := g3 4
                       have c5 := g2 5 _ rfl
                       have z5 := g3 5
                       simp only [Nat.zero_add] at c0 c1 c2 c3 c4 c5
                       clear g2 g3
                       refine wpAny_of_held (S := fun _ => True) _ _ _ _ ?_
                       refine rdH [15] ?_
                       refine rcH (fun K hK => ?_) AllReadyH.nil
                       simp only [fillT,f13,f14]
                       try go_frame
                       go_simp
                       refine hK.out _ _ trivial (fun _ => ?_)
                       clear hK K
                       try go_frame
                       refine wpAnyH_done (by kernel_rfl) ?_ _
                       go_wp2_with fail
                       go_meet
                       have hsB : P12.heap.size <= w2.heap.size := by simpa using hb.size
                       obtain ⟨y1,y2⟩ := ClB.fill (n := ⟨#[68]⟩) (s := ⟨#[66,97,115,101]⟩) (k := 3) (is := [⟨#[74]⟩]) (B := P12.heap.size) a3 (by omega) HI.out HJ.out HQ2.out.1 HQ2.out.2 (by omega) (by omega) (fun b h => by have h1 : (g 0).2.1 <= b := h.1; have h2 : b < (g 0).2.2 := h.2; refine ⟨?_,?_,?_⟩ <;> omega) (fun b h => by have h1 : (g 5).2.1 <= b := h.1; have h2 : b < (g 5).2.2 := h.2; refine ⟨?_,?_,?_⟩ <;> omega) (fun b h => by have h1 : (g 11).2.1 <= b := h.1; have h2 : b < (g 11).2.2 := h.2; refine ⟨?_,?_,?_⟩ <;> omega) rfl
                       have hbl := ((below_drU P12).trans hb).trans (Kpt.below y2 (fun x hx => by simp at hx; omega) hsB)
                       exact ⟨_,_,_,_,_,_,_,rfl,by simp,y1,hbl⟩
                     case rest =>
                      obtain ⟨tb6,gI6,gF6,p,n,c,rs,rfl,hlo,hC,hB⟩ := hcut
                      rename World => P13
                      have HC := hid hC
                      have HB := hid hB
                      clear hC hB
                      go_upto_region 23 with fail
                      go_cut [163] from 160 to 163 (fun s wx => ∃ bv : Bool,s = .bool bv /\ bv = bitS k1 0 /\ wx = P13)
                      case first =>
                       obtain ⟨-,hkc,-⟩ := boxN (((HBS.out.trans (HB.out.mono HBS.out.size)).block _ hltK).trans HXK.out)
                       have hk0 := hkc 1 _ rfl
                       simp only [Nat.zero_add] at hk0
                       clear hkc
                       by_cases hb : k1 / 2 ^ 0 % 2 = 1
                       ·have hbb : bits BinOp.and IntKind.u8 (k1 : Int) 1 = 1 := by have := bit_at h1 0 (by decide); rw [if_pos hb] at this; exact this
                        have HW := hid (show true = bitS k1 0 by unfold bitS; rw [decide_eq_true hb])
                        clear hb
                        go_wp2_with fail
                        go_meet
                        exact ⟨_,rfl,HW.out,rfl⟩
                       ·have hbb : bits BinOp.and IntKind.u8 (k1 : Int) 1 = 0 := by have := bit_at h1 0 (by decide); rw [if_neg hb] at this; exact this
                        have HW := hid (show false = bitS k1 0 by unfold bitS; rw [decide_eq_false hb])
                        clear hb
                        go_wp2_with fail
                        go_meet
                        exact ⟨_,rfl,HW.out,rfl⟩
                      case rest =>
                       obtain ⟨bv,rfl,hbv,rfl⟩ := hcut
                       rename World => P13
                       have HV := hid hbv
                       clear hbv
                       go_upto_if 163 with fail
                       go_cut [] from 164 to 169 (fun wx => ∃ p n c rs,rs.length <= 2 /\ ClB wx P12.heap.size tb6 (.slice (some ⟨gI6,0,none⟩) 1 1) (.slice (some ⟨gF6,0,none⟩) 2 2) (.slice p n c) rs ⟨⟨#[68]⟩,⟨#[66,97,115,101]⟩,[⟨#[74]⟩],3,[(⟨#[119,97,115,116,101]⟩,tI,true),(⟨#[120]⟩,tS,false)],[runS ⟨#[68]⟩ ((k1 + k2) % 256)] ++ whenS (bitS k1 0) [clinitS ⟨#[100]⟩]⟩ /\ Below P12.heap.size P12 wx)
                       case first =>
                        cases bv with
                        | true =>
                         have HW : Hid (whenS (bitS k1 0) [clinitS ⟨#[100]⟩] = [clinitS ⟨#[100]⟩]) := hid (by unfold whenS; rw [<- HV.out]; rfl)
                         go_wp2_with fail
                         have hCx := HC.out.below (below_drU P13)
                         have hBx : Below P12.heap.size P12 P13.drew := HB.out.trans ((below_drU P13).mono HB.out.size)
                         obtain ⟨t1,t2,t3⟩ := hCx.cells
                         go_region_law (first
                          | (refine step_appM inf_mth (shape_raw 9) (by rfl) _ _ (by rfl) P12.heap.size _ rs (by rfl) hCc.2.2.2.2.1 _ 0 1 1 [rX] (by rfl) hsrc.out (by simp <;> omega) hBc ?_; intro v3 w3 ho3 hg3 hl3; obtain ⟨e1,e2,e3,hC5,hB5⟩ := hCc.app hBc hmX.out ho3 hg3 hl3; obtain ⟨p3,n3,c3,hv3⟩ := ho3.slice; subst hv3; have HC5 := hid hC5; have HB5 := hid hB5; clear hC5 hB5 ho3 hg3 hl3)
                          | (rw [if_pos (by rfl)]; go_simp; go_at_call 24; refine (clinit_v _ _).mono ?_; rintro e wx ⟨pp,np,cp,pc,nc,cc,ph,nh,ch,rfl,g1,g2,g3,hbx⟩; have hm0 : mP (okT P12.heap.size tb6 (.slice p n c)) wx [.string (clinitS ⟨#[100]⟩).name,.slice pp np cp,.int .i64 (clinitS ⟨#[100]⟩).ret.1,.string (clinitS ⟨#[100]⟩).ret.2,.bool (clinitS ⟨#[100]⟩).st,.bool (clinitS ⟨#[100]⟩).ab,.int .i64 (clinitS ⟨#[100]⟩).locals,.slice pc nc cc,.slice ph nh ch] (clinitS ⟨#[100]⟩) := mP.grow _ _ _ _ _ _ (show mP (fun b => P13.drew.heap.size <= b) wx [.string (clinitS ⟨#[100]⟩).name,.slice pp np cp,.int .i64 (clinitS ⟨#[100]⟩).ret.1,.string (clinitS ⟨#[100]⟩).ret.2,.bool (clinitS ⟨#[100]⟩).st,.bool (clinitS ⟨#[100]⟩).ab,.int .i64 (clinitS ⟨#[100]⟩).locals,.slice pc nc cc,.slice ph nh ch] (clinitS ⟨#[100]⟩) from ⟨_,_,_,rfl,g1,g2,g3⟩) (fun b hb _ => hCx.okNew hBx.size b hb) (fun _ _ _ => rfl) (Nat.le_refl _); have hm := hid hm0; clear g1 g2 g3 hm0; replace hBx := hBx.trans (hbx.mono hBx.size); replace hCx := hCx.below hbx; clear hbx; obtain ⟨t1,t2,t3⟩ := hCx.cells; obtain ⟨rX,hsrc0,hCc,hBc,hmX0,hbl⟩ := hCx.ready hBx.size _ (clinitS ⟨#[100]⟩) hm.out #[.string (clinitS ⟨#[100]⟩).name,.slice pp np cp,.int .i64 (clinitS ⟨#[100]⟩).ret.1,.string (clinitS ⟨#[100]⟩).ret.2,.bool (clinitS ⟨#[100]⟩).st,.bool (clinitS ⟨#[100]⟩).ab,.int .i64 (clinitS ⟨#[100]⟩).locals,.slice pc nc cc,.slice ph nh ch] rfl; have hsrc := hid hsrc0; have hmX := hid hmX0; have HBX2 := hid (hBx.trans hbl); clear hsrc0 hmX0 hbl; obtain ⟨d1,d2,d3⟩ := hCc.cells))
                         all_goals
                          go_wp2_with fail
                          go_meet
                          refine ⟨_,_,_,_,?_,by rw [HW.out]; exact HC5.out,HBX2.out.trans HB5.out⟩
                          rw [List.length_append]
                          simp only [List.length_cons,List.length_nil]
                          omega
                        | false =>
                         have HW : Hid (whenS (bitS k1 0) [clinitS ⟨#[100]⟩] = []) := hid (by unfold whenS; rw [<- HV.out]; rfl)
                         go_wp2_with fail
                         go_meet
                         exact ⟨_,_,_,_,Nat.le_succ_of_le hlo,by rw [HW.out,List.append_nil]; exact HC.out,HB.out⟩
                       case rest =>
                        clear HC HB hlo
                        obtain ⟨p,n,c,rs,hlo,hC,hB⟩ := hcut
                        rename World => P14
                        have HC := hid hC
                        have HB := hid hB
                        clear hC hB
                        replace HD1 := hid (HD1.out.below HB.out)
                        replace HD2 := hid (HD2.out.below HB.out)
                        replace HD3 := hid (HD3.out.below HB.out)
                        replace HD4 := hid (HD4.out.below HB.out)
                        replace HD5 := hid (HD5.out.below HB.out)
                        have HZ6 := hid (show w.heap.size <= P12.heap.size by have := HBS.out.size; omega)
                        have HD6 := HC
                        replace HBS := hid (HBS.out.trans (HB.out.mono HBS.out.size))
                        clear HB HC hlo
                        go_upto_region 25 with fail
                        obtain ⟨kB,hkB⟩ : ∃ x : Int,x = (if bitS k0 3 then 3 else 1) := ⟨_,rfl⟩
                        rw [<- hkB] at HD3
                        have HKB := hid hkB
                        clear hkB
                        obtain ⟨-,x1,-⟩ := boxN HD1.out.1
                        have x1_0 := x1 0 _ rfl
                        have x1_1 := x1 1 _ rfl
                        have x1_2 := x1 2 _ rfl
                        have x1_3 := x1 3 _ rfl
                        have x1_4 := x1 4 _ rfl
                        have x1_5 := x1 5 _ rfl
                        simp only [Nat.zero_add] at x1_0 x1_1 x1_2 x1_3 x1_4 x1_5
                        clear x1
                        obtain ⟨-,x2,-⟩ := boxN HD2.out.1
                        have x2_0 := x2 0 _ rfl
                        have x2_1 := x2 1 _ rfl
                        have x2_2 := x2 2 _ rfl
                        have x2_3 := x2 3 _ rfl
                        have x2_4 := x2 4 _ rfl
                        have x2_5 := x2 5 _ rfl
                        simp only [Nat.zero_add] at x2_0 x2_1 x2_2 x2_3 x2_4 x2_5
                        clear x2
                        obtain ⟨-,x3,-⟩ := boxN HD3.out.1
                        have x3_0 := x3 0 _ rfl
                        have x3_1 := x3 1 _ rfl
                        have x3_2 := x3 2 _ rfl
                        have x3_3 := x3 3 _ rfl
                        have x3_4 := x3 4 _ rfl
                        have x3_5 := x3 5 _ rfl
                        simp only [Nat.zero_add] at x3_0 x3_1 x3_2 x3_3 x3_4 x3_5
                        clear x3
                        obtain ⟨-,x4,-⟩ := boxN HD4.out.1
                        have x4_0 := x4 0 _ rfl
                        have x4_1 := x4 1 _ rfl
                        have x4_2 := x4 2 _ rfl
                        have x4_3 := x4 3 _ rfl
                        have x4_4 := x4 4 _ rfl
                        have x4_5 := x4 5 _ rfl
                        simp only [Nat.zero_add] at x4_0 x4_1 x4_2 x4_3 x4_4 x4_5
                        clear x4
                        obtain ⟨-,x5,-⟩ := boxN HD5.out.1
                        have x5_0 := x5 0 _ rfl
                        have x5_1 := x5 1 _ rfl
                        have x5_2 := x5 2 _ rfl
                        have x5_3 := x5 3 _ rfl
                        have x5_4 := x5 4 _ rfl
                        have x5_5 := x5 5 _ rfl
                        simp only [Nat.zero_add] at x5_0 x5_1 x5_2 x5_3 x5_4 x5_5
                        clear x5
                        obtain ⟨-,x6,-⟩ := boxN HD6.out.1
                        have x6_0 := x6 0 _ rfl
                        have x6_1 := x6 1 _ rfl
                        have x6_2 := x6 2 _ rfl
                        have x6_3 := x6 3 _ rfl
                        have x6_4 := x6 4 _ rfl
                        have x6_5 := x6 5 _ rfl
                        simp only [Nat.zero_add] at x6_0 x6_1 x6_2 x6_3 x6_4 x6_5
                        clear x6
                        go_wp2_with fail
                        clear x1_0 x1_1 x1_2 x1_3 x1_4 x1_5 x2_0 x2_1 x2_2 x2_3 x2_4 x2_5 x3_0 x3_1 x3_2 x3_3 x3_4 x3_5 x4_0 x4_1 x4_2 x4_3 x4_4 x4_5 x5_0 x5_1 x5_2 x5_3 x5_4 x5_5 x6_0 x6_1 x6_2 x6_3 x6_4 x6_5
                        go_ret
                        refine ⟨_,rfl,by unfold familyS; rw [<- HKB.out]; exact rd_lits2 shape_cls cP.grow (ok := fun b => w.heap.size <= b) (All2.cons (cP.grow _ _ _ _ _ _ HD1.out.done (fun b hb _ => Nat.le_trans HZ1.out hb) (fun _ _ _ => rfl) (Nat.le_refl _)) (All2.cons (cP.grow _ _ _ _ _ _ HD2.out.done (fun b hb _ => Nat.le_trans HZ2.out hb) (fun _ _ _ => rfl) (Nat.le_refl _)) (All2.cons (cP.grow _ _ _ _ _ _ HD3.out.done (fun b hb _ => Nat.le_trans HZ3.out hb) (fun _ _ _ => rfl) (Nat.le_refl _)) (All2.cons (cP.grow _ _ _ _ _ _ HD4.out.done (fun b hb _ => Nat.le_trans HZ4.out hb) (fun _ _ _ => rfl) (Nat.le_refl _)) (All2.cons (cP.grow _ _ _ _ _ _ HD5.out.done (fun b hb _ => Nat.le_trans HZ5.out hb) (fun _ _ _ => rfl) (Nat.le_refl _)) (All2.cons (cP.grow _ _ _ _ _ _ HD6.out.done (fun b hb _ => Nat.le_trans HZ6.out hb) (fun _ _ _ => rfl) (Nat.le_refl _)) All2.nil)))))) _ rfl _ 6 rfl (by have := HBS.out.size; show w.heap.size <= P14.heap.size; omega),?_⟩
                        exact (HA.out.trans (HBS.out.mono (Nat.le_of_lt hltK))).trans ((below_alM P14 _).mono (by have := HBS.out.size; omega))
end Go.Proofs.YtfpeakkbbfnhcaaGreat.A
