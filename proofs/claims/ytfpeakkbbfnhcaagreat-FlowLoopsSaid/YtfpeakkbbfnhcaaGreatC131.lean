/- Texts that the proof is made of, joined. No condition. -/
import Derived.Test.YtfpeakkbbfnhcaaGreatC130
import Derived.Test.YtfpeakkbbfnhcaaGreatRows
import Derived.Deep.LoopGhost
set_option linter.unusedVariables false
set_option linter.unusedSimpArgs false
set_option maxRecDepth 100000
set_option maxHeartbeats 16000000
namespace Go.Proofs.YtfpeakkbbfnhcaaGreat.A
open Go.RowKit Go.Proofs.YtfpeakkbbfnhcaaGreat.D Go.Proofs.YtfpeakkbbfnhcaaGreat.O
def iOne (o : Int) : Ins := (o,0,0,es,es,es,es)
def iNum (n : Int) : Ins := (1,n,0,es,es,es,es)
def iStr (s : ByteArray) : Ins := (2,0,0,s,es,es,es)
def iAt (o k : Int) : Ins := (o,0,k,es,es,es,es)
def iOf (o : Int) (c : ByteArray) : Ins := (o,0,0,es,c,es,es)
def iPart (o : Int) (c m : ByteArray) : Ins := (o,0,0,es,c,m,es)
def iCall (o : Int) (c m d : ByteArray) : Ins := (o,0,0,es,c,m,d)
abbrev BS : Type := List Ins × List Hnd
def bAdd (l : List Ins) (st : BS) : BS := (st.1 ++ l,st.2)
def bTry (f : Nat) (c s : ByteArray) (st : BS) : BS :=
 (st.1 ++ [iAt 19 ((st.1.length : Int) + 4)] ++ [iOne 6,iStr s,iOne 41],st.2 ++ [((f : Int),(st.1.length : Int),(st.1.length : Int) + 1,c)])
def bSet (i : Nat) (f : Ins -> Ins) (st : BS) : BS := (st.1.modify i f,st.2)
def selI (n m : Int) (l : List Int) : Int := l.getD (n % m).toNat 0
def selT (n m : Int) (l : List ByteArray) : ByteArray := l.getD (n % m).toNat es
def wordT (n : Int) : ByteArray := selT n 5 [⟨#[97]⟩,⟨#[98,99]⟩,⟨#[]⟩,⟨#[120,32,121]⟩,⟨#[48]⟩]
def classT (n : Int) : ByteArray := selT n 4 [⟨#[65]⟩,⟨#[66]⟩,⟨#[67]⟩,⟨#[68]⟩]
def snip (k : Nat) (n : Int) (st : BS) : BS :=
 match k with
 | 0 => bAdd [iAt 4 0,iOne 18,iOne 41] st
 | 1 => bAdd [iAt 4 0,iNum (n - 100),iOne 8,iAt 5 0] st
 | 2 => bAdd [iOne 42,iAt 5 0] st
 | 3 => bAdd [iAt 4 1,iStr (wordT n),iOne 16,iAt 5 1] st
 | 4 => bAdd [iAt 4 1,iOne 41] st
 | 5 => bAdd [iAt 4 2,iNum (n % 5 - 1),iAt 4 0,iOne 24] st
 | 6 => bAdd [iAt 4 2,iNum (n % 4),iOne 23,iAt 5 0] st
 | 7 => bTry st.1.length (selT (n / 4) 2 [⟨#[90,101,114,111,70,97,117,108,116]⟩,⟨#[70,97,117,108,116]⟩]) ⟨#[122,101,114,111]⟩ (bAdd [iAt 4 0,iNum (n % 7 - 3),iOne (selI n 4 [10,11,12,9]),iAt 5 0] st)
 | 8 => bAdd [iAt 4 0,iNum (n % 9),iOne (selI n 2 [14,15]),iAt 5 0] st
 | 9 => bAdd [iAt 4 0,iOne 13,iAt 5 0] st
 | 10 => bAdd [iAt 4 1,iOne 17,iAt 5 0] st
 | 11 => bTry st.1.length ⟨#[83,105,122,101,70,97,117,108,116]⟩ ⟨#[115,105,122,101]⟩ (bAdd [iNum (n % 6 - 1),iOne 21,iAt 5 2] st)
 | 12 => bAdd [iAt 4 2,iOne 22,iAt 5 0] st
 | 13 => bAdd [iAt 4 0,iAt 20 ((st.1.length : Int) + 4),iStr (wordT n),iOne 41] st
 | 14 => bAdd [iAt 19 ((st.1.length : Int) + 2)] (bSet (st.1.length + 3) (fun x => (x.1,x.2.1,(st.1.length : Int) + 11,x.2.2.2)) (bAdd [iAt 4 5,iAt 20 ((st.1.length : Int) + 10),iStr ⟨#[46]⟩,iOne 41,iAt 4 5,iNum 1,iOne 9,iAt 5 5] (bAdd [iNum (n % 4),iAt 5 5] st)))
 | 15 => bAdd [iStr (wordT n),iOne 7,iOne 16,iOne 41] st
 | 16 => bAdd [iOf 25 (classT n),iAt 5 3] st
 | 17 => bAdd [iOf 25 (classT n),iAt 5 3] st
 | 18 => bAdd [iOne 3,iAt 5 3] st
 | 19 => bAdd [iAt 4 3,iCall 34 ⟨#[66,97,115,101]⟩ ⟨#[114,117,110]⟩ ⟨#[40,41,73]⟩,iAt 5 0] st
 | 20 => bAdd [iAt 4 3,iOf 30 ⟨#[73]⟩,iAt 5 4] st
 | 21 => bTry st.1.length ⟨#[78,117,108,108,70,97,117,108,116]⟩ ⟨#[110,117,108,108]⟩ (bAdd [iAt 4 4,iCall 35 ⟨#[73]⟩ ⟨#[114,117,110]⟩ ⟨#[40,41,73]⟩,iAt 5 0] st)
 | 22 => bAdd [iAt 4 3,iCall 34 ⟨#[66,97,115,101]⟩ ⟨#[110,97,109,101]⟩ ⟨#[40,41,83]⟩,iOne 41] st
 | 23 => bAdd [iAt 4 3,iAt 4 0,iPart 27 ⟨#[66,97,115,101]⟩ ⟨#[120]⟩] st
 | 24 => bAdd [iAt 4 3,iPart 26 ⟨#[66,97,115,101]⟩ ⟨#[120]⟩,iAt 5 0] st
 | 25 => bAdd [iAt 4 3,iNum n,iPart 27 ⟨#[66,97,115,101]⟩ ⟨#[119]⟩] st
 | 26 => bAdd [iPart 28 ⟨#[65]⟩ ⟨#[99,111,117,110,116]⟩,iNum 1,iOne 8,iPart 29 ⟨#[65]⟩ ⟨#[99,111,117,110,116]⟩] st
 | 27 => bAdd [iAt 4 0,iPart 29 (selT n 2 [⟨#[85,116,105,108]⟩,⟨#[68]⟩]) ⟨#[119,97,115,116,101]⟩] st
 | 28 => bAdd [iAt 4 0,iCall 36 ⟨#[85,116,105,108]⟩ (selT n 4 [⟨#[105,110,99]⟩,⟨#[116,119,105,99,101]⟩,⟨#[119,111,114,107]⟩,⟨#[100,111,119,110]⟩]) ⟨#[40,73,41,73]⟩,iAt 5 0] st
 | 29 => bAdd [iAt 4 3,iCall 36 ⟨#[85,116,105,108]⟩ ⟨#[115,97,109,101]⟩ ⟨#[40,76,66,97,115,101,59,41,76,66,97,115,101,59]⟩,iAt 5 3] st
 | 30 => bTry st.1.length (selT n 4 [⟨#[69,114,114]⟩,⟨#[69,114,114,50]⟩,⟨#[70,97,117,108,116]⟩,⟨#[78,117,108,108,70,97,117,108,116]⟩]) ⟨#[101,114,114]⟩ (bAdd [iCall 36 ⟨#[85,116,105,108]⟩ ⟨#[102,97,105,108]⟩ ⟨#[40,41,86]⟩] st)
 | 31 => bAdd [iAt 4 3,iAt 4 3,iPart 27 ⟨#[66,97,115,101]⟩ ⟨#[110,101,120,116]⟩,iAt 4 3,iPart 26 ⟨#[66,97,115,101]⟩ ⟨#[110,101,120,116]⟩,iAt 5 3] st
 | 32 => bAdd [iAt 4 3,iOf 31 (selT n 6 [⟨#[66]⟩,⟨#[77,105,100]⟩,⟨#[73]⟩,⟨#[66,97,115,101]⟩,⟨#[79,98,106,101,99,116]⟩,⟨#[67]⟩]),iAt 5 0] st
 | 33 => bTry st.1.length (selT (n / 4) 2 [⟨#[67,97,115,116,70,97,117,108,116]⟩,⟨#[70,97,117,108,116]⟩]) ⟨#[99,97,115,116]⟩ (bAdd [iAt 4 3,iOf 30 (selT n 4 [⟨#[66]⟩,⟨#[77,105,100]⟩,⟨#[65]⟩,⟨#[68]⟩]),iAt 5 3] st)
 | 34 => bAdd [iAt 4 3,iAt 4 3,iPart 26 ⟨#[66,97,115,101]⟩ ⟨#[110,101,120,116]⟩,iOne 32,iAt 5 0] st
 | 35 => bTry st.1.length ⟨#[78,117,108,108,70,97,117,108,116]⟩ ⟨#[99,104,101,99,107]⟩ (bAdd [iAt 4 3,iOne 33] st)
 | 36 => bAdd [iOf 25 ⟨#[67]⟩,iOne 7,iNum n,iPart 27 ⟨#[77,105,100]⟩ ⟨#[109]⟩,iCall 34 ⟨#[67]⟩ ⟨#[101,120,116,114,97]⟩ ⟨#[40,41,73]⟩,iAt 5 0] st
 | 37 => bSet st.1.length (fun _ => iAt 4 4) (bAdd [iAt 4 3,iCall 36 ⟨#[85,116,105,108]⟩ ⟨#[112,97,115,115]⟩ ⟨#[40,76,73,59,41,76,73,59]⟩,iAt 5 4] st)
 | 38 => bTry st.1.length (selT n 2 [⟨#[69,114,114]⟩,⟨#[70,97,117,108,116]⟩]) ⟨#[116,104,114,111,119,110]⟩ (bAdd [iOf 25 (selT n 3 [⟨#[69,114,114]⟩,⟨#[69,114,114,50]⟩,⟨#[66,111,117,110,100,115,70,97,117,108,116]⟩]),iOne 38] st)
 | _ => bAdd [iCall 36 ⟨#[85,116,105,108]⟩ ⟨#[115,104,111,119]⟩ ⟨#[40,41,86]⟩] st
def roundS (a b : Nat) (st : BS) : BS :=
 if a = 255 then bAdd [iNum b,iOne 43] (snip (a % 40) b st) else snip (a % 40) b st
def roundsS : Nat -> List Nat -> BS -> BS
 | m + 1,a :: b :: l,st => roundsS m l (roundS a b st)
 | _,_,st => st
def bodyS (l : List Nat) : BS :=
 bAdd [iOne 40] (roundsS 20 l ([iNum 1,iAt 5 0,iStr ⟨#[115]⟩,iAt 5 1,iNum 3,iOne 21,iAt 5 2,iOf 25 ⟨#[65]⟩,iAt 5 3,iOne 3,iAt 5 4],[]))
def tI : Ty := (1,es)
def tS : Ty := (2,es)
def tV : Ty := (5,es)
def tR (s : ByteArray) : Ty := (4,s)
def mthS (name : ByteArray) (ps : List Ty) (r : Ty) (st : Bool) (lo : Int) (code : List Ins) : Mth := ⟨name,ps,r,st,false,lo,code,[]⟩
def absS : Mth := ⟨⟨#[114,117,110]⟩,[],tI,false,true,0,[],[]⟩
def clinitS (s : ByteArray) : Mth := mthS ⟨#[99,108,105,110,105,116]⟩ [] tV true 0 [iStr s,iOne 41,iOne 40]
def runS (c : ByteArray) (n : Nat) : Mth :=
 mthS ⟨#[114,117,110]⟩ [] tI false 1 ((if n / 5 % 4 = 1 then [iStr c,iOne 41] else if n / 5 % 4 = 2 then [iAt 4 0,iNum 9,iPart 27 ⟨#[66,97,115,101]⟩ ⟨#[119]⟩,iAt 4 0,iNum n,iPart 27 ⟨#[66,97,115,101]⟩ ⟨#[120]⟩] else []) ++
  [iAt 4 0,iPart 26 ⟨#[66,97,115,101]⟩ ⟨#[120]⟩,iNum ((n % 5 : Nat) : Int),iOne 8,iOne 39])
def utilS (k : Nat) : Cls :=
  ⟨⟨#[85,116,105,108]⟩,⟨#[79,98,106,101,99,116]⟩,[],1,[(⟨#[119,97,115,116,101]⟩,tI,true)],
    [mthS ⟨#[105,110,99]⟩ [tI] tI true 1 [iAt 4 0,iNum 1,iOne 8,iOne 39],
     mthS ⟨#[116,119,105,99,101]⟩ [tI] tI true 3 [iAt 4 0,iAt 5 2,iAt 4 2,iAt 4 2,iOne 8,iOne 39],
     mthS ⟨#[119,111,114,107]⟩ [tI] tI true 1 [iAt 4 0,iAt 20 4,iNum 7,iOne 39,iNum 3,iOne 39],
     mthS ⟨#[100,111,119,110]⟩ [tI] tI true 1 [iAt 4 0,iNum 1,iOne 14,iAt 20 6,iNum 0,iOne 39,iAt 4 0,iNum 50,iOne 9,iCall 36 ⟨#[85,116,105,108]⟩ ⟨#[100,111,119,110]⟩ ⟨#[40,73,41,73]⟩,iNum 1,iOne 8,iOne 39],
     mthS ⟨#[115,97,109,101]⟩ [tR ⟨#[66,97,115,101]⟩] (tR ⟨#[66,97,115,101]⟩) true 1 [iAt 4 0,iOne 39],
     mthS ⟨#[112,97,115,115]⟩ [tR ⟨#[73]⟩] (tR ⟨#[73]⟩) true 1 [iAt 4 0,iOne 39],
     mthS ⟨#[102,97,105,108]⟩ [] tV true 0 [iOf 25 ⟨#[69,114,114,50]⟩,iOne 38],
     mthS ⟨#[115,104,111,119]⟩ [] tV true 0 (if k % 2 = 1 then [iNum 5,iStr ⟨#[108,101,102,116]⟩,iOne 41,iOne 40] else [iStr ⟨#[115,104,111,119]⟩,iOne 41,iOne 40]),
     mthS ⟨#[100,101,97,100]⟩ [tI] tI true 1 [iAt 4 0,iCall 36 ⟨#[71,111,110,101]⟩ ⟨#[102]⟩ ⟨#[40,73,41,73]⟩,iOne 39]] ++ (if k / 2 % 2 = 1 then [clinitS ⟨#[117,116,105,108]⟩] else [])⟩
def whenS {α : Type} (b : Bool) (l : List α) : List α := if b then l else []
def bitS (k i : Nat) : Bool := decide (k / 2 ^ i % 2 = 1)
def familyS (k0 k1 k2 k3 : Nat) : List Cls :=
  [⟨⟨#[66,97,115,101]⟩,⟨#[79,98,106,101,99,116]⟩,[⟨#[73]⟩],2,[(⟨#[120]⟩,tI,false),(⟨#[110,101,120,116]⟩,tR ⟨#[66,97,115,101]⟩,false),(⟨#[119]⟩,tI,false),(⟨#[117,110,117,115,101,100]⟩,tS,false)],
      [mthS ⟨#[110,97,109,101]⟩ [] tS false 1 [iStr ⟨#[98,97,115,101]⟩,iOne 39]] ++ whenS (bitS k0 0) [absS] ++ whenS (bitS k0 1) [clinitS ⟨#[98,97,115,101]⟩]⟩,
   ⟨⟨#[65]⟩,⟨#[66,97,115,101]⟩,[],1,[(⟨#[99,111,117,110,116]⟩,tI,true)],[runS ⟨#[65]⟩ k1] ++ whenS (bitS k0 2) [clinitS ⟨#[97]⟩]⟩,
   ⟨⟨#[66]⟩,⟨#[65]⟩,[],if bitS k0 3 then 3 else 1,[],whenS (bitS k0 4) [runS ⟨#[66]⟩ k2] ++ whenS (bitS k0 5) [mthS ⟨#[110,97,109,101]⟩ [] tS false 1 [iAt 4 0,iCall 37 ⟨#[65]⟩ ⟨#[110,97,109,101]⟩ ⟨#[40,41,83]⟩,iStr ⟨#[43,98]⟩,iOne 16,iOne 39]]⟩,
   ⟨⟨#[77,105,100]⟩,⟨#[66,97,115,101]⟩,whenS (bitS k0 6) [⟨#[74]⟩],2,[(⟨#[109]⟩,tI,false)],[]⟩,
   ⟨⟨#[67]⟩,⟨#[77,105,100]⟩,[],1,[],[runS ⟨#[67]⟩ k3,mthS ⟨#[101,120,116,114,97]⟩ [] tI false 1 [iAt 4 0,iPart 26 ⟨#[77,105,100]⟩ ⟨#[109]⟩,iOne 39]] ++ whenS (bitS k0 7) [mthS ⟨#[110,97,109,101]⟩ [] tS false 1 [iAt 4 0,iCall 37 ⟨#[77,105,100]⟩ ⟨#[110,97,109,101]⟩ ⟨#[40,41,83]⟩,iStr ⟨#[43,99]⟩,iOne 16,iOne 39]]⟩,
   ⟨⟨#[68]⟩,⟨#[66,97,115,101]⟩,[⟨#[74]⟩],3,[(⟨#[119,97,115,116,101]⟩,tI,true),(⟨#[120]⟩,tS,false)],[runS ⟨#[68]⟩ ((k1 + k2) % 256)] ++ whenS (bitS k1 0) [clinitS ⟨#[100]⟩]⟩]
def mainS (k2 : Nat) (l m : List Nat) : Cls :=
 ⟨⟨#[77,97,105,110]⟩,⟨#[79,98,106,101,99,116]⟩,[],1,[],
  [⟨⟨#[109,97,105,110]⟩,[],tV,true,false,6,(bodyS l).1,(bodyS l).2⟩,⟨⟨#[97,108,116]⟩,[],tV,true,false,6,(bodyS m).1,(bodyS m).2⟩] ++ whenS (bitS k2 0) [clinitS ⟨#[109,97,105,110]⟩]⟩
def archS (k0 k1 k2 k3 : Nat) (l m : List Nat) : Arch :=
  (fun a : Arch => if bitS k2 2 then a.reverse else a)
   ([mainS k2 l m,⟨⟨#[73]⟩,⟨#[79,98,106,101,99,116]⟩,[],4,[],[absS]⟩,⟨⟨#[74]⟩,⟨#[79,98,106,101,99,116]⟩,[⟨#[73]⟩],4,[],whenS (bitS k2 1) [absS]⟩] ++ familyS k0 k1 k2 k3 ++
    [⟨⟨#[69,114,114]⟩,⟨#[70,97,117,108,116]⟩,[],1,[],[]⟩,⟨⟨#[69,114,114,50]⟩,⟨#[69,114,114]⟩,[],1,[],[]⟩,⟨⟨#[71,111,110,101]⟩,⟨#[65]⟩,[],1,[],[mthS ⟨#[102]⟩ [tI] tI true 1 [iOf 25 ⟨#[71,111,110,101]⟩,iOne 6,iAt 4 0,iOne 39]]⟩,utilS k3])
end Go.Proofs.YtfpeakkbbfnhcaaGreat.A
namespace Go.Proofs.YtfpeakkbbfnhcaaGreat.S
structure TO {α : Type} (lt : α -> α -> Bool) : Prop where
 irr : ∀ x,lt x x = false
 tr : ∀ {x y z},lt x y = true -> lt y z = true -> lt x z = true
 tot : ∀ {x y},lt x y = false -> lt y x = false -> x = y
section
variable {α : Type} {lt : α -> α -> Bool} (T : TO lt)
include T
theorem TO.asym {x y : α} (h : lt x y = true) : lt y x = false := by
 cases h' : lt y x with
 | false => rfl
 | true =>
  have := T.tr h h'
  rw [T.irr] at this
  cases this
theorem TO.nt {x y z : α} (h1 : lt y x = false) (h2 : lt z y = false) : lt z x = false := by
 cases h : lt z x with
 | false => rfl
 | true =>
  cases h3 : lt x y with
  | true =>
   have := T.tr h h3
   rw [h2] at this
   cases this
  | false =>
   have := T.tot h1 h3
   subst this
   rw [h2] at h
   cases h
theorem TO.lt_nt {x y z : α} (h1 : lt x y = true) (h2 : lt z y = false) : lt z x = false := T.nt (T.asym h1) h2
end
section
variable {α : Type} {lt : α -> α -> Bool}
def HpF (lt : α -> α -> Bool) (f : Nat -> α) (n : Nat) : Prop := ∀ m,0 < m -> m < n -> lt (f m) (f ((m - 1) / 2)) = false
def RiF (lt : α -> α -> Bool) (f : Nat -> α) (n k : Nat) : Prop :=
 (∀ m,0 < m -> m < n -> m ≠ k -> lt (f m) (f ((m - 1) / 2)) = false) /\ (0 < k -> ∀ m,0 < m -> m < n -> (m - 1) / 2 = k -> lt (f m) (f ((k - 1) / 2)) = false)
def SiF (lt : α -> α -> Bool) (f : Nat -> α) (n k : Nat) : Prop :=
 (∀ m,0 < m -> m < n -> (m - 1) / 2 ≠ k -> lt (f m) (f ((m - 1) / 2)) = false) /\ (0 < k -> ∀ m,0 < m -> m < n -> (m - 1) / 2 = k -> lt (f m) (f ((k - 1) / 2)) = false)
theorem RiF.done {f : Nat -> α} {n k : Nat} (h : RiF lt f n k) (hk : 0 < k -> lt (f k) (f ((k - 1) / 2)) = false) : HpF lt f n := fun m h0 hm => by
 by_cases e : m = k
 ·subst e; exact hk h0
 ·exact h.1 m h0 hm e
theorem RiF.step (T : TO lt) {f f' : Nat -> α} {n k : Nat} (h : RiF lt f n k) (hk : 0 < k) (hkn : k < n) (hl : lt (f k) (f ((k - 1) / 2)) = true) (h1 : f' k = f ((k - 1) / 2)) (h2 : f' ((k - 1) / 2) = f k) (h3 : ∀ i,i ≠ k -> i ≠ (k - 1) / 2 -> f' i = f i) :
  RiF lt f' n ((k - 1) / 2) := by
 obtain ⟨ha,hb⟩ := h
 have hup : (k - 1) / 2 < k := by omega
 refine ⟨fun m m0 mn hne => ?_,fun u0 m m0 mn hm => ?_⟩
 ·by_cases e : m = k
  ·subst e
   rw [h1,h2]
   exact T.asym hl
  ·rw [h3 m e hne]
   by_cases e1 : (m - 1) / 2 = k
   ·rw [e1,h1]
    exact hb hk m m0 mn e1
   ·by_cases e2 : (m - 1) / 2 = (k - 1) / 2
    ·rw [e2,h2]
     have := ha m m0 mn e
     rw [e2] at this
     exact T.lt_nt hl this
    ·rw [h3 _ e1 e2]
     exact ha m m0 mn e
 ·have hp : f' (((k - 1) / 2 - 1) / 2) = f (((k - 1) / 2 - 1) / 2) := h3 _ (by omega) (by omega)
  rw [hp]
  have hup2 := ha ((k - 1) / 2) u0 (by omega) (by omega)
  by_cases e : m = k
  ·subst e
   rw [h1]
   exact hup2
  ·rw [h3 m e (by omega)]
   have := ha m m0 mn e
   rw [hm] at this
   exact T.nt hup2 this
theorem SiF.done {f : Nat -> α} {n k : Nat} (h : SiF lt f n k) (hk : ∀ m,0 < m -> m < n -> (m - 1) / 2 = k -> lt (f m) (f k) = false) : HpF lt f n := fun m h0 hm => by
 by_cases e : (m - 1) / 2 = k
 ·rw [e]; exact hk m h0 hm e
 ·exact h.1 m h0 hm e
theorem SiF.step (T : TO lt) {f f' : Nat -> α} {n k j : Nat} (h : SiF lt f n k) (hj0 : 0 < j) (hjn : j < n) (hj : (j - 1) / 2 = k) (hl : lt (f j) (f k) = true) (hmin : ∀ m,0 < m -> m < n -> (m - 1) / 2 = k -> lt (f m) (f j) = false)
  (h1 : f' k = f j) (h2 : f' j = f k) (h3 : ∀ i,i ≠ k -> i ≠ j -> f' i = f i) : SiF lt f' n j := by
 obtain ⟨ha,hb⟩ := h
 have hkj : k < j := by omega
 refine ⟨fun m m0 mn hne => ?_,fun u0 m m0 mn hm => ?_⟩
 ·by_cases e : m = k
  ·subst e
   rw [h1,h3 ((m - 1) / 2) (by omega) (by omega)]
   exact hb m0 j hj0 hjn hj
  ·by_cases ec : (m - 1) / 2 = k
   ·rw [ec,h1]
    by_cases e2 : m = j
    ·subst e2
     rw [h2]
     exact T.asym hl
    ·rw [h3 m e e2]
     exact hmin m m0 mn ec
   ·have e2 : m ≠ j := fun e2 => ec (by rw [e2]; exact hj)
    rw [h3 m e e2,h3 _ ec hne]
    exact ha m m0 mn ec
 ·rw [hj,h1,h3 m (by omega) (by omega)]
  have := ha m m0 mn (by omega)
  rw [hm] at this
  exact this
theorem HpF.root (T : TO lt) {f : Nat -> α} {n : Nat} (h : HpF lt f n) : ∀ m,m < n -> lt (f m) (f 0) = false := by
 intro m
 induction m using Nat.strongRecOn with
 | ind m ih =>
  intro hm
  by_cases e : m = 0
  ·subst e; exact T.irr _
  ·exact T.nt (ih ((m - 1) / 2) (by omega) (by omega)) (h m (by omega) hm)
end
def swL {α : Type} (h : List α) (i j : Nat) (x y : α) : List α := (h.set i y).set j x
theorem swL_perm {α : Type} {h : List α} {i j : Nat} {x y : α} (hi : h[i]? = some x) (hj : h[j]? = some y) : (swL h i j x y).Perm h := by
 obtain ⟨hi',rfl⟩ := List.getElem?_eq_some_iff.1 hi
 obtain ⟨hj',rfl⟩ := List.getElem?_eq_some_iff.1 hj
 exact List.set_set_perm hi' hj'
theorem swL_len {α : Type} (h : List α) (i j : Nat) (x y : α) : (swL h i j x y).length = h.length := by simp [swL]
def at' {α : Type} (d : α) (h : List α) (k : Nat) : α := (h[k]?).getD d
theorem at'_some {α : Type} {d x : α} {h : List α} {k : Nat} (e : h[k]? = some x) : at' d h k = x := by unfold at'; rw [e]; rfl
theorem at'_sw {α : Type} {d : α} {h : List α} {i j : Nat} {x y : α} (hi : h[i]? = some x) (hj : h[j]? = some y) :
  at' d (swL h i j x y) i = y /\ at' d (swL h i j x y) j = x /\ ∀ k,k ≠ i -> k ≠ j -> at' d (swL h i j x y) k = at' d h k := by
 obtain ⟨hi',ei⟩ := List.getElem?_eq_some_iff.1 hi
 obtain ⟨hj',ej⟩ := List.getElem?_eq_some_iff.1 hj
 refine ⟨?_,?_,fun k h1 h2 => ?_⟩
 ·unfold at' swL
  by_cases e : j = i
  ·subst e
   rw [hi] at hj
   cases hj
   simp [hi']
  ·rw [List.getElem?_set_ne e]
   simp [hi']
 ·unfold at' swL
  simp [hj']
 ·unfold at' swL
  rw [List.getElem?_set_ne (Ne.symm h2),List.getElem?_set_ne (Ne.symm h1)]
def Hp {α : Type} (lt : α -> α -> Bool) (d : α) (h : List α) : Prop := HpF lt (at' d h) h.length
theorem Hp.nil {α : Type} (lt : α -> α -> Bool) (d : α) : Hp lt d [] := fun m _ hm => by simp at hm
theorem Hp.least {α : Type} {lt : α -> α -> Bool} (T : TO lt) {d x : α} {h : List α} (hp : Hp lt d h) (h0 : h[0]? = some x) : ∀ y ∈ h,lt y x = false := by
 intro y hy
 obtain ⟨k,hk,rfl⟩ := List.mem_iff_getElem.1 hy
 have := HpF.root T hp k hk
 rw [at'_some h0,at'_some (List.getElem?_eq_getElem hk)] at this
 exact this
theorem Hp.snoc {α : Type} {lt : α -> α -> Bool} {d : α} {h : List α} (hp : Hp lt d h) (x : α) : RiF lt (at' d (h ++ [x])) (h ++ [x]).length h.length := by
 have e : ∀ k,k < h.length -> at' d (h ++ [x]) k = at' d h k := fun k hk => by unfold at'; rw [List.getElem?_append_left hk]
 refine ⟨fun m m0 mn hne => ?_,fun _ m m0 mn hm => ?_⟩
 ·simp at mn
  rw [e m (by omega),e _ (by omega)]
  exact hp m m0 (by omega)
 ·simp at mn
  omega
theorem Hp.pop {α : Type} {lt : α -> α -> Bool} {d : α} {h g : List α} (hp : Hp lt d h) (hg : g.length + 1 = h.length) (hs : ∀ k,0 < k -> k < g.length -> g[k]? = h[k]?) : SiF lt (at' d g) g.length 0 := by
 refine ⟨fun m m0 mn hne => ?_,fun h0 => absurd h0 (by omega)⟩
 have e1 : at' d g m = at' d h m := by unfold at'; rw [hs m m0 mn]
 have e2 : at' d g ((m - 1) / 2) = at' d h ((m - 1) / 2) := by unfold at'; rw [hs _ (by omega) (by omega)]
 rw [e1,e2]
 exact hp m m0 (by omega)
def onceL {α : Type} [DecidableEq α] (l : List α) : List α := l.foldl (fun a x => if x ∈ a then a else a ++ [x]) []
def addS {α : Type} [DecidableEq α] (a : List α) (x : α) : List α := if x ∈ a then a else a ++ [x]
theorem addS_mem {α : Type} [DecidableEq α] {a : List α} {x y : α} : y ∈ addS a x ↔ y ∈ a ∨ y = x := by
 unfold addS
 split
 ·rename_i hx
  exact ⟨.inl,fun h => h.elim id (fun e => e ▸ hx)⟩
 ·simp
theorem addS_in {α : Type} [DecidableEq α] {a : List α} {x : α} (h : x ∈ a) : addS a x = a := if_pos h
theorem addS_out {α : Type} [DecidableEq α] {a : List α} {x : α} (h : x ∉ a) : addS a x = a ++ [x] := if_neg h
theorem addS_len {α : Type} [DecidableEq α] (a : List α) (x : α) : (addS a x).length <= a.length + 1 := by unfold addS; split <;> simp
theorem onceL_snoc {α : Type} [DecidableEq α] (l : List α) (x : α) : onceL (l ++ [x]) = addS (onceL l) x := by unfold onceL addS; rw [List.foldl_append]; rfl
theorem onceL_nil {α : Type} [DecidableEq α] : onceL ([] : List α) = [] := rfl
theorem rev_ind {α : Type} {P : List α -> Prop} (h0 : P []) (h1 : ∀ l x,P l -> P (l ++ [x])) (l : List α) : P l := by
 have : ∀ n (l : List α),l.length = n -> P l := by
  intro n
  induction n with
  | zero => intro l h; rw [List.length_eq_zero_iff.1 h]; exact h0
  | succ n ih =>
   intro l h
   have hne : l ≠ [] := by rintro rfl; simp at h
   rw [<- List.dropLast_concat_getLast hne]
   exact h1 _ _ (ih _ (by simp [h]))
 exact this _ l rfl
theorem onceL_mem {α : Type} [DecidableEq α] (l : List α) : ∀ y,y ∈ onceL l ↔ y ∈ l := rev_ind (P := fun l => ∀ y,y ∈ onceL l ↔ y ∈ l) (by simp [onceL_nil]) (fun l x h y => by rw [onceL_snoc,addS_mem,h y]; simp) l
theorem onceL_len {α : Type} [DecidableEq α] (l : List α) : (onceL l).length <= l.length := rev_ind (P := fun l => (onceL l).length <= l.length) (by simp [onceL_nil]) (fun l x h => by
 rw [onceL_snoc]; have := addS_len (onceL l) x; simp; omega) l
theorem once_take {α : Type} [DecidableEq α] {l : List α} {i : Nat} (h : i < l.length) : onceL (l.take (i + 1)) = addS (onceL (l.take i)) l[i] := by
 rw [List.take_succ_eq_append_getElem h,onceL_snoc]
def hasB {α : Type} [DecidableEq α] (a : List α) (x : α) : Bool := decide (x ∈ a)
theorem hasB_iff {α : Type} [DecidableEq α] {a : List α} {x : α} : hasB a x = true ↔ x ∈ a := decide_eq_true_iff
theorem hasB_in {α : Type} [DecidableEq α] {a : List α} {x : α} (h : x ∈ a) : hasB a x = true := decide_eq_true h
theorem hasB_out {α : Type} [DecidableEq α] {a : List α} {x : α} (h : x ∉ a) : hasB a x = false := decide_eq_false h
theorem hasB_eq {α : Type} [DecidableEq α] {a b : List α} {x : α} (h : x ∈ a ↔ x ∈ b) : hasB a x = hasB b x := by unfold hasB; rw [decide_eq_decide]; exact h
def putN {α : Type} [DecidableEq α] (E N : List α) (x : α) : List α := if hasB E x = true then N else addS N x
theorem putN_in {α : Type} [DecidableEq α] {E N : List α} {x : α} (h : x ∈ E) : putN E N x = N := if_pos (hasB_in h)
theorem putN_out {α : Type} [DecidableEq α] {E N : List α} {x : α} (h : x ∉ E) : putN E N x = addS N x := if_neg (by rw [hasB_out h]; simp)
theorem putN_self {α : Type} [DecidableEq α] (L : List α) (x : α) : putN L L x = addS L x := by
 by_cases h : x ∈ L
 ·rw [putN_in h,addS_in h]
 ·rw [putN_out h]
def delS {α : Type} [DecidableEq α] (a : List α) (x : α) : List α := a.filter (fun y => decide (y ≠ x))
theorem delS_nodup {α : Type} [DecidableEq α] {a : List α} (h : a.Nodup) (x : α) : (delS a x).Nodup := List.Pairwise.filter _ h
theorem delS_mem {α : Type} [DecidableEq α] {a : List α} {x y : α} : y ∈ delS a x ↔ y ∈ a /\ y ≠ x := by unfold delS; simp
theorem nodup_len_eq {α : Type} [DecidableEq α] : ∀ {l m : List α},l.Nodup -> m.Nodup -> (∀ x,x ∈ l ↔ x ∈ m) -> l.length = m.length := by
 intro l m hl hm h
 exact Nat.le_antisymm (hl.length_le_of_subset (fun x hx => (h x).1 hx)) (hm.length_le_of_subset (fun x hx => (h x).2 hx))
end Go.Proofs.YtfpeakkbbfnhcaaGreat.S
namespace Go.Proofs.YtfpeakkbbfnhcaaGreat.R
open Go.RowKit Go.Proofs.YtfpeakkbbfnhcaaGreat.D Go.Proofs.YtfpeakkbbfnhcaaGreat.O Go.Proofs.YtfpeakkbbfnhcaaGreat.A Go.Proofs.YtfpeakkbbfnhcaaGreat.S
abbrev Sk : Type := ByteArray × ByteArray × Int × List ByteArray
def skOf (c : Cls) : Sk := (c.name,c.super,c.kind,c.ifaces)
def objT : ByteArray := ⟨#[79,98,106,101,99,116]⟩
def fltT : ByteArray := ⟨#[70,97,117,108,116]⟩
def fivT : List ByteArray := [⟨#[78,117,108,108,70,97,117,108,116]⟩,⟨#[66,111,117,110,100,115,70,97,117,108,116]⟩,⟨#[67,97,115,116,70,97,117,108,116]⟩,⟨#[90,101,114,111,70,97,117,108,116]⟩,⟨#[83,105,122,101,70,97,117,108,116]⟩]
def bltS (n : ByteArray) : Option ByteArray := if n = objT then some es else if n = fltT then some objT else if hasB fivT n = true then some fltT else none
def bltC (n : ByteArray) : Option Cls := (bltS n).map fun s => ⟨n,s,[],1,[],[]⟩
def findS (T : List Sk) (n : ByteArray) : Option Sk := match bltS n with | some s => some (n,s,1,[]) | none => T.find? (fun c => decide (c.1 = n))
def findC (K : List Cls) (n : ByteArray) : Option Cls := match bltC n with | some c => some c | none => K.find? (fun c => decide (c.name = n))
def noC : Cls := ⟨es,es,[],0,[],[]⟩
def superT (T : List Sk) (n : ByteArray) : ByteArray := match findS T n with | some c => c.2.1 | none => es
def kindT (T : List Sk) (n : ByteArray) : Int := match findS T n with | some c => c.2.2.1 | none => 0
def ifsT (T : List Sk) (n : ByteArray) : List ByteArray := match findS T n with | some c => c.2.2.2 | none => []
def knownT (T : List Sk) (n : ByteArray) : Bool := (findS T n).isSome
def chainF (T : List Sk) : Nat -> List ByteArray -> ByteArray -> List ByteArray × Bool
 | 0,l,n => (l,hasB l n)
 | f + 1,l,n => if (knownT T n && !hasB l n) = true then chainF T f (l ++ [n]) (superT T n) else (l,hasB l n)
def chainT (T : List Sk) (n : ByteArray) : List ByteArray × Bool := chainF T (T.length + 8) [] n
def closedF (T : List Sk) : Nat -> List ByteArray -> List ByteArray -> List ByteArray
 | 0,out,_ => out
 | _ + 1,out,[] => out
 | f + 1,out,n :: left => if (knownT T n && !hasB out n) = true then closedF T f (out ++ [n]) (ifsT T n ++ left) else closedF T f out left
def costT (out : List ByteArray) : List Sk -> Nat
 | [] => 0
 | c :: T => (if hasB out c.1 = true then 0 else c.2.2.2.length) + costT out T
def closedT (T : List Sk) (l : List ByteArray) : List ByteArray := closedF T (l.length + costT [] T) [] l
def wideT (T : List Sk) (n : ByteArray) : List ByteArray := (chainT T n).1.flatMap (ifsT T)
def ifacesT (T : List Sk) (n : ByteArray) : List ByteArray := closedT T (wideT T n)
def subT (T : List Sk) (a b : ByteArray) : Bool :=
 if knownT T a = true then if knownT T b = true then if a = b then true else if b = objT then true else hasB (chainT T a).1 b || hasB (ifacesT T a) b else false else false
def firstIn (l : List ByteArray) : List ByteArray -> ByteArray
 | [] => objT
 | x :: m => if hasB l x = true then x else firstIn l m
def commonT (T : List Sk) (a b : ByteArray) : ByteArray :=
 if a = b then firstIn (chainT T b).1 (chainT T a).1 else if kindT T a = 4 then objT else if kindT T b = 4 then objT else firstIn (chainT T b).1 (chainT T a).1
def keep1 (K : List Cls) (c : Cls) : List Cls := if knownT (K.map skOf) c.name = true then K else K ++ [c]
def keepL (a : List Cls) : List Cls := a.foldl keep1 []
theorem keepL_snoc (l : List Cls) (c : Cls) : keepL (l ++ [c]) = keep1 (keepL l) c := by unfold keepL; rw [List.foldl_append]; rfl
theorem keep_take {l : List Cls} {i : Nat} {c : Cls} (h : l[i]? = some c) : keepL (l.take (i + 1)) = keep1 (keepL (l.take i)) c := by
 obtain ⟨hi,rfl⟩ := List.getElem?_eq_some_iff.1 h
 rw [List.take_succ_eq_append_getElem hi,keepL_snoc]
theorem keep1_len (K : List Cls) (c : Cls) : (keep1 K c).length <= K.length + 1 := by unfold keep1; split <;> simp
theorem keepL_len (l : List Cls) : (keepL l).length <= l.length := rev_ind (P := fun l => (keepL l).length <= l.length) (by simp [keepL]) (fun l c h => by rw [keepL_snoc]; have := keep1_len (keepL l) c; simp; omega) l
theorem keepL_mem (l : List Cls) : ∀ c ∈ keepL l,c ∈ l := rev_ind (P := fun l => ∀ c ∈ keepL l,c ∈ l) (by simp [keepL]) (fun l c h x hx => by
 rw [keepL_snoc] at hx
 unfold keep1 at hx
 split at hx
 ·exact List.mem_append_left _ (h x hx)
 ·rcases List.mem_append.1 hx with hx | hx
  ·exact List.mem_append_left _ (h x hx)
  ·exact List.mem_append_right _ hx) l
theorem find_nm {T : List Sk} {n : ByteArray} {c : Sk} (h : T.find? (fun c => decide (c.1 = n)) = some c) : c.1 = n := by
 have := List.find?_some h
 simpa using this
theorem find_sk (K : List Cls) (n : ByteArray) : (K.map skOf).find? (fun c => decide (c.1 = n)) = (K.find? (fun c => decide (c.name = n))).map skOf := by
 induction K with
 | nil => rfl
 | cons c K ih =>
  rw [List.map_cons,List.find?_cons,List.find?_cons]
  by_cases h : c.name = n
  ·have : (skOf c).1 = n := h
   rw [decide_eq_true h,decide_eq_true this]; rfl
  ·have : ¬ (skOf c).1 = n := h
   rw [decide_eq_false h,decide_eq_false this]; exact ih
theorem findS_sk (K : List Cls) (n : ByteArray) : findS (K.map skOf) n = (findC K n).map skOf := by
 unfold findS findC bltC
 cases bltS n with
 | some s => rfl
 | none => exact find_sk K n
theorem known_sk (K : List Cls) (n : ByteArray) : knownT (K.map skOf) n = (findC K n).isSome := by unfold knownT; rw [findS_sk]; cases findC K n <;> rfl
theorem super_sk (K : List Cls) (n : ByteArray) : superT (K.map skOf) n = ((findC K n).getD noC).super := by unfold superT; rw [findS_sk]; cases findC K n <;> rfl
theorem kind_sk (K : List Cls) (n : ByteArray) : kindT (K.map skOf) n = ((findC K n).getD noC).kind := by unfold kindT; rw [findS_sk]; cases findC K n <;> rfl
theorem ifs_sk (K : List Cls) (n : ByteArray) : ifsT (K.map skOf) n = ((findC K n).getD noC).ifaces := by unfold ifsT; rw [findS_sk]; cases findC K n <;> rfl
theorem find_pos (K : List Cls) (n : ByteArray) : (n ∈ K.map (·.name) -> K[pos (K.map (·.name)) n]? = K.find? (fun c => decide (c.name = n)) /\ (K.find? (fun c => decide (c.name = n))).isSome = true) /\ (n ∉ K.map (·.name) -> K.find? (fun c => decide (c.name = n)) = none) := by
 induction K with
 | nil => exact ⟨fun h => by simp at h,fun _ => rfl⟩
 | cons c K ih =>
  by_cases h : c.name = n
  ·refine ⟨fun _ => ?_,fun h' => absurd (by rw [<- h]; simp) h'⟩
   have e : pos ((c :: K).map (·.name)) n = 0 := by unfold pos; rw [List.map_cons,List.findIdx_cons,decide_eq_true h]; rfl
   rw [e,List.find?_cons,decide_eq_true h]
   exact ⟨rfl,rfl⟩
  ·have h1 : (c :: K).find? (fun c => decide (c.name = n)) = K.find? (fun c => decide (c.name = n)) := by rw [List.find?_cons,decide_eq_false h]
   have e : pos ((c :: K).map (·.name)) n = pos (K.map (·.name)) n + 1 := by unfold pos; rw [List.map_cons,List.findIdx_cons,decide_eq_false h]; rfl
   rw [h1,e,List.getElem?_cons_succ]
   refine ⟨fun h' => ih.1 ?_,fun h' => ih.2 (fun h2 => h' (by rw [List.map_cons]; exact List.mem_cons_of_mem _ h2))⟩
   rw [List.map_cons] at h'
   rcases List.mem_cons.1 h' with e | h'
   ·exact absurd e.symm h
   ·exact h'
theorem find_in {K : List Cls} {n : ByteArray} (hb : bltS n = none) (h : n ∈ K.map (·.name)) : ∃ c,K[pos (K.map (·.name)) n]? = some c /\ findC K n = some c := by
 obtain ⟨h1,h2⟩ := (find_pos K n).1 h
 obtain ⟨c,hc⟩ := Option.isSome_iff_exists.1 h2
 refine ⟨c,h1.trans hc,?_⟩
 unfold findC bltC
 rw [hb]
 exact hc
theorem find_out {K : List Cls} {n : ByteArray} (hb : bltS n = none) (h : n ∉ K.map (·.name)) : findC K n = none := by
 unfold findC bltC
 rw [hb]
 exact (find_pos K n).2 h
theorem find_blt {K : List Cls} {n s : ByteArray} (hb : bltS n = some s) : findC K n = some ⟨n,s,[],1,[],[]⟩ := by
 unfold findC bltC
 rw [hb]
 rfl
theorem not_name {K : List Cls} {n : ByteArray} (h : knownT (K.map skOf) n = false) : n ∉ K.map (·.name) := by
 intro hn
 rw [known_sk] at h
 cases hb : bltS n with
 | some s => rw [find_blt hb] at h; cases h
 | none =>
  obtain ⟨c,_,hc⟩ := find_in hb hn
  rw [hc] at h
  cases h
def allN (T : List Sk) : List ByteArray := objT :: fltT :: fivT ++ T.map (·.1)
theorem allN_len (T : List Sk) : (allN T).length = T.length + 7 := by unfold allN fivT; simp
theorem known_all {T : List Sk} {n : ByteArray} (h : knownT T n = true) : n ∈ allN T := by
 unfold allN
 unfold knownT findS at h
 cases hb : bltS n with
 | some s =>
  unfold bltS at hb
  by_cases h1 : n = objT
  ·simp [h1]
  ·by_cases h2 : n = fltT
   ·simp [h2]
   ·rw [if_neg h1,if_neg h2] at hb
    by_cases h3 : hasB fivT n = true
    ·have := hasB_iff.1 h3
     exact List.mem_append_left _ (List.mem_cons_of_mem _ (List.mem_cons_of_mem _ this))
    ·rw [if_neg h3] at hb; cases hb
 | none =>
  rw [hb] at h
  have h' : (T.find? (fun c => decide (c.1 = n))).isSome = true := h
  obtain ⟨c,hc⟩ := Option.isSome_iff_exists.1 h'
  have h1 := List.mem_of_find?_eq_some hc
  have h2 := find_nm hc
  exact List.mem_append_right _ (List.mem_map.2 ⟨c,h1,h2⟩)
def Kn (T : List Sk) (l : List ByteArray) : Prop := l.Nodup /\ ∀ x ∈ l,knownT T x = true
theorem Kn.nil (T : List Sk) : Kn T [] := ⟨List.nodup_nil,fun x h => by cases h⟩
theorem Kn.len {T : List Sk} {l : List ByteArray} (h : Kn T l) : l.length <= T.length + 7 := by
 rw [<- allN_len]
 exact h.1.length_le_of_subset (fun x hx => known_all (h.2 x hx))
theorem Kn.snoc {T : List Sk} {l : List ByteArray} {n : ByteArray} (h : Kn T l) (hk : knownT T n = true) (hn : n ∉ l) : Kn T (l ++ [n]) := by
 refine ⟨?_,fun x hx => ?_⟩
 ·rw [List.nodup_append]
  exact ⟨h.1,by simp,fun y hy z hz e => hn (by rw [List.mem_singleton.1 hz] at e; rw [<- e]; exact hy)⟩
 ·rcases List.mem_append.1 hx with hx | hx
  ·exact h.2 x hx
  ·rw [List.mem_singleton.1 hx]; exact hk
theorem chain_next {T : List Sk} {f : Nat} {l : List ByteArray} {n : ByteArray} (hk : knownT T n = true) (hn : hasB l n = false) : chainF T (f + 1) l n = chainF T f (l ++ [n]) (superT T n) := by
 show (if _ then _ else _) = _
 rw [hk,hn]; rfl
theorem chain_stop {T : List Sk} {f : Nat} {l : List ByteArray} {n : ByteArray} (h : knownT T n = false ∨ hasB l n = true) : chainF T f l n = (l,hasB l n) := by
 cases f with
 | zero => rfl
 | succ f =>
  show (if _ then _ else _) = _
  rw [if_neg]
  rcases h with h | h <;> rw [h] <;> simp
theorem chainF_kn {T : List Sk} : ∀ (f : Nat) {l : List ByteArray} {n : ByteArray},Kn T l -> Kn T (chainF T f l n).1
 | 0,l,n,h => h
 | f + 1,l,n,h => by
  by_cases hk : knownT T n = true
  ·by_cases hn : hasB l n = true
   ·rw [chain_stop (.inr hn)]; exact h
   ·rw [chain_next hk (by simpa using hn)]
    exact chainF_kn f (h.snoc hk (fun hh => hn (hasB_in hh)))
  ·rw [chain_stop (.inl (by simpa using hk))]; exact h
theorem chain_kn (T : List Sk) (n : ByteArray) : Kn T (chainT T n).1 := chainF_kn _ (Kn.nil T)
theorem cost_le (out : List ByteArray) (n : ByteArray) : ∀ T : List Sk,costT (out ++ [n]) T <= costT out T
 | [] => Nat.le_refl _
 | c :: T => by
  have := cost_le out n T
  unfold costT
  by_cases h : hasB out c.1 = true
  ·have h2 : hasB (out ++ [n]) c.1 = true := hasB_in (List.mem_append_left _ (hasB_iff.1 h))
   rw [if_pos h,if_pos h2]; omega
  ·rw [if_neg h]
   split <;> omega
theorem cost_step {out : List ByteArray} {n : ByteArray} (hn : n ∉ out) : ∀ {T : List Sk} {c : Sk},c ∈ T -> c.1 = n -> c.2.2.2.length + costT (out ++ [n]) T <= costT out T
 | [],c,h,_ => by cases h
 | d :: T,c,h,e => by
  unfold costT
  rcases List.mem_cons.1 h with rfl | h
  ·have := cost_le out n T
   have h1 : ¬ hasB out c.1 = true := by rw [e,hasB_out hn]; simp
   have h2 : hasB (out ++ [n]) c.1 = true := hasB_in (by rw [e]; simp)
   rw [if_neg h1,if_pos h2]
   omega
  ·have := cost_step hn h e
   by_cases h2 : hasB out d.1 = true
   ·have h3 : hasB (out ++ [n]) d.1 = true := hasB_in (List.mem_append_left _ (hasB_iff.1 h2))
    rw [if_pos h2,if_pos h3]; omega
   ·rw [if_neg h2]
    split <;> omega
theorem cost_ifs {T : List Sk} {out : List ByteArray} {n : ByteArray} (hn : hasB out n = false) : (ifsT T n).length + costT (out ++ [n]) T <= costT out T := by
 have hn' : n ∉ out := fun h => by rw [hasB_in h] at hn; cases hn
 unfold ifsT findS
 cases bltS n with
 | some s => simpa using cost_le out n T
 | none =>
  cases hc : T.find? (fun c => decide (c.1 = n)) with
  | none => simpa using cost_le out n T
  | some c => exact cost_step hn' (List.mem_of_find?_eq_some hc) (find_nm hc)
theorem closed_next {T : List Sk} {f : Nat} {out left : List ByteArray} {n : ByteArray} (hk : knownT T n = true) (hn : hasB out n = false) : closedF T (f + 1) out (n :: left) = closedF T f (out ++ [n]) (ifsT T n ++ left) := by
 show (if _ then _ else _) = _
 rw [hk,hn]; rfl
theorem closed_skip {T : List Sk} {f : Nat} {out left : List ByteArray} {n : ByteArray} (h : knownT T n = false ∨ hasB out n = true) : closedF T (f + 1) out (n :: left) = closedF T f out left := by
 show (if _ then _ else _) = _
 rw [if_neg]
 rcases h with h | h <;> rw [h] <;> simp
theorem closed_nil {T : List Sk} {f : Nat} {out : List ByteArray} : closedF T f out [] = out := by cases f <;> rfl
theorem closedF_kn {T : List Sk} : ∀ (f : Nat) {out left : List ByteArray},Kn T out -> Kn T (closedF T f out left)
 | 0,out,left,h => h
 | f + 1,out,[],h => h
 | f + 1,out,n :: left,h => by
  by_cases hk : knownT T n = true
  ·by_cases hn : hasB out n = true
   ·rw [closed_skip (.inr hn)]; exact closedF_kn f h
   ·rw [closed_next hk (by simpa using hn)]
    exact closedF_kn f (h.snoc hk (fun hh => hn (hasB_in hh)))
  ·rw [closed_skip (.inl (by simpa using hk))]; exact closedF_kn f h
theorem closed_kn (T : List Sk) (l : List ByteArray) : Kn T (closedT T l) := closedF_kn _ (Kn.nil T)
def SzT (T : List Sk) : Prop := T.length <= 1000 /\ (∀ c ∈ T,c.1.size <= maxLen /\ c.2.1.size <= maxLen /\ c.2.2.2.length <= 100 /\ ∀ i ∈ c.2.2.2,i.size <= maxLen)
theorem cost_few : ∀ {T : List Sk},(∀ c ∈ T,c.2.2.2.length <= 100) -> costT [] T <= T.length * 100
 | [],_ => Nat.le_refl _
 | c :: T,h => by
  have h1 := cost_few (T := T) (fun d hd => h d (List.mem_cons_of_mem _ hd))
  have h2 := h c (by simp)
  unfold costT
  rw [if_neg (show ¬ hasB [] c.1 = true by simp [hasB]),List.length_cons,Nat.succ_mul]
  omega
theorem SzT.cost {T : List Sk} (h : SzT T) : costT [] T <= 100000 := by
 have h1 := cost_few (fun c hc => (h.2 c hc).2.2.1)
 have h2 := h.1
 omega
theorem find_cases (T : List Sk) (n : ByteArray) : (∃ s,bltS n = some s /\ findS T n = some (n,s,1,[])) ∨ (bltS n = none /\ ∃ c ∈ T,c.1 = n /\ findS T n = some c) ∨ (bltS n = none /\ findS T n = none) := by
 unfold findS
 cases bltS n with
 | some s => exact .inl ⟨s,rfl,rfl⟩
 | none =>
  cases hc : T.find? (fun c => decide (c.1 = n)) with
  | none => exact .inr (.inr ⟨rfl,rfl⟩)
  | some c => exact .inr (.inl ⟨rfl,c,List.mem_of_find?_eq_some hc,find_nm hc,rfl⟩)
theorem blt_size {n s : ByteArray} (h : bltS n = some s) : s.size <= 100 := by
 unfold bltS at h
 split at h
 ·cases h; decide
 ·split at h
  ·cases h; decide
  ·split at h
   ·cases h; decide
   ·cases h
theorem SzT.super {T : List Sk} (h : SzT T) (n : ByteArray) : (superT T n).size <= maxLen := by
 unfold superT
 rcases find_cases T n with ⟨s,hb,e⟩ | ⟨_,c,hc,_,e⟩ | ⟨_,e⟩ <;> rw [e]
 ·exact Nat.le_trans (blt_size hb) (by unfold maxLen; omega)
 ·exact (h.2 c hc).2.1
 ·exact Nat.zero_le _
theorem SzT.ifs {T : List Sk} (h : SzT T) (n : ByteArray) : (ifsT T n).length <= 100 /\ ∀ i ∈ ifsT T n,i.size <= maxLen := by
 unfold ifsT
 rcases find_cases T n with ⟨s,hb,e⟩ | ⟨_,c,hc,_,e⟩ | ⟨_,e⟩ <;> rw [e]
 ·exact ⟨Nat.zero_le _,fun i hi => by cases hi⟩
 ·exact (h.2 c hc).2.2
 ·exact ⟨Nat.zero_le _,fun i hi => by cases hi⟩
theorem flat_few {T : List Sk} (h : SzT T) : ∀ l : List ByteArray,(l.flatMap (ifsT T)).length <= l.length * 100
 | [] => Nat.le_refl _
 | x :: l => by
  have := flat_few h l
  have := (h.ifs x).1
  rw [List.flatMap_cons,List.length_append,List.length_cons,Nat.succ_mul]
  omega
theorem SzT.wide {T : List Sk} (h : SzT T) (n : ByteArray) : (wideT T n).length <= 200000 /\ ∀ i ∈ wideT T n,i.size <= maxLen := by
 refine ⟨?_,fun i hi => ?_⟩
 ·have h1 := flat_few h (chainT T n).1
  have h2 := (chain_kn T n).len
  have h3 := h.1
  unfold wideT
  omega
 ·obtain ⟨x,_,hx⟩ := List.mem_flatMap.1 hi
  exact (h.ifs x).2 i hx
theorem SzT.kn {T : List Sk} (h : SzT T) {l : List ByteArray} (hl : Kn T l) : ∀ x ∈ l,x.size <= maxLen := by
 intro x hx
 have := hl.2 x hx
 unfold knownT at this
 rcases find_cases T x with ⟨s,hb,e⟩ | ⟨_,c,hc,e1,e⟩ | ⟨_,e⟩
 ·have h3 := known_all (hl.2 x hx)
  unfold bltS at hb
  split at hb
  ·rename_i e; subst e; exact Nat.le_trans (by decide : objT.size <= 100) (by unfold maxLen; omega)
  ·split at hb
   ·rename_i e; subst e; exact Nat.le_trans (by decide : fltT.size <= 100) (by unfold maxLen; omega)
   ·split at hb
    ·rename_i e
     have h4 : ∀ y ∈ fivT,y.size <= 100 := by decide
     exact Nat.le_trans (h4 x (hasB_iff.1 e)) (by unfold maxLen; omega)
    ·cases hb
 ·rw [<- e1]; exact (h.2 c hc).1
 ·rw [e] at this; cases this
end Go.Proofs.YtfpeakkbbfnhcaaGreat.R
namespace Go.Proofs.YtfpeakkbbfnhcaaGreat.R
open Go.RowKit Go.Proofs.YtfpeakkbbfnhcaaGreat.D Go.Proofs.YtfpeakkbbfnhcaaGreat.O Go.Proofs.YtfpeakkbbfnhcaaGreat.A
def tabT (b3 b6 b2 : Bool) : List Sk :=
 (fun a : List Sk => if b2 then a.reverse else a)
 [(⟨#[77,97,105,110]⟩,⟨#[79,98,106,101,99,116]⟩,1,[]),(⟨#[73]⟩,⟨#[79,98,106,101,99,116]⟩,4,[]),(⟨#[74]⟩,⟨#[79,98,106,101,99,116]⟩,4,[⟨#[73]⟩]),(⟨#[66,97,115,101]⟩,⟨#[79,98,106,101,99,116]⟩,2,[⟨#[73]⟩]),(⟨#[65]⟩,⟨#[66,97,115,101]⟩,1,[]),(⟨#[66]⟩,⟨#[65]⟩,if b3 then 3 else 1,[]),(⟨#[77,105,100]⟩,⟨#[66,97,115,101]⟩,2,whenS b6 [⟨#[74]⟩]),(⟨#[67]⟩,⟨#[77,105,100]⟩,1,[]),(⟨#[68]⟩,⟨#[66,97,115,101]⟩,3,[⟨#[74]⟩]),(⟨#[69,114,114]⟩,⟨#[70,97,117,108,116]⟩,1,[]),(⟨#[69,114,114,50]⟩,⟨#[69,114,114]⟩,1,[]),(⟨#[71,111,110,101]⟩,⟨#[65]⟩,1,[]),(⟨#[85,116,105,108]⟩,⟨#[79,98,106,101,99,116]⟩,1,[])]
theorem seat_sk (k0 k1 k2 k3 : Nat) : (archS k0 k1 k2 k3 [] []).map skOf = tabT (bitS k0 3) (bitS k0 6) (bitS k2 2) := by
 unfold archS familyS tabT
 cases bitS k0 3 <;> cases bitS k0 6 <;> cases bitS k2 2 <;> rfl
theorem keep_sk : ∀ l : List Cls,(keepL l).map skOf = l.foldl (fun T c => if knownT T c.name = true then T else T ++ [skOf c]) [] := fun l => S.rev_ind (P := fun l => (keepL l).map skOf = l.foldl (fun T c => if knownT T c.name = true then T else T ++ [skOf c]) []) rfl (fun l c h => by
 rw [keepL_snoc,List.foldl_append]
 show (keep1 (keepL l) c).map skOf = if knownT _ c.name = true then _ else _
 rw [<- h]
 unfold keep1
 split <;> simp) l
theorem keep_sk2 (l : List Cls) : (keepL l).map skOf = (l.map skOf).foldl (fun T c => if knownT T c.1 = true then T else T ++ [c]) [] := by rw [keep_sk,List.foldl_map]; rfl
theorem tab_keep (b3 b6 b2 : Bool) : (tabT b3 b6 b2).foldl (fun T c => if knownT T c.1 = true then T else T ++ [c]) [] = tabT b3 b6 b2 := by
 cases b3 <;> cases b6 <;> cases b2 <;> decide +kernel
theorem seat_kept (k0 k1 k2 k3 : Nat) : (keepL (archS k0 k1 k2 k3 [] [])).map skOf = tabT (bitS k0 3) (bitS k0 6) (bitS k2 2) := by rw [keep_sk2,seat_sk,tab_keep]
theorem szT_small {T : List Sk} (h : (decide (T.length <= 1000) && T.all fun c => decide (c.1.size <= 1000) && decide (c.2.1.size <= 1000) && decide (c.2.2.2.length <= 100) && c.2.2.2.all fun i => decide (i.size <= 1000)) = true) : SzT T := by
 simp only [Bool.and_eq_true,decide_eq_true_eq,List.all_eq_true] at h
 have hm : 1000 <= maxLen := by unfold maxLen; omega
 refine ⟨h.1,fun c hc => ?_⟩
 obtain ⟨⟨⟨h1,h2⟩,h3⟩,h4⟩ := h.2 c hc
 exact ⟨Nat.le_trans h1 hm,Nat.le_trans h2 hm,h3,fun i hi => Nat.le_trans (h4 i hi) hm⟩
theorem tab_sz (b3 b6 b2 : Bool) : SzT (tabT b3 b6 b2) := szT_small (by cases b3 <;> cases b6 <;> cases b2 <;> decide +kernel)
theorem seat_sz8 (k0 k1 k2 k3 : Nat) : SzT ((archS k0 k1 k2 k3 [] []).map skOf) := by rw [seat_sk]; exact tab_sz _ _ _
end Go.Proofs.YtfpeakkbbfnhcaaGreat.R
namespace Go.Proofs.YtfpeakkbbfnhcaaGreat.R
open Go.RowKit Go.Proofs.YtfpeakkbbfnhcaaGreat.D Go.Proofs.YtfpeakkbbfnhcaaGreat.O Go.Proofs.YtfpeakkbbfnhcaaGreat.A
def nulT : Ty := (6,es)
def topT : Ty := (7,es)
def joinT (T : List Sk) (a b : Ty) : Ty :=
 if a = b then a else if a = nulT /\ (b.1 = 3 ∨ b.1 = 4) then b else if b = nulT /\ (a.1 = 3 ∨ a.1 = 4) then a else if a.1 = 4 /\ b.1 = 4 then (4,commonT T a.2 b.2) else topT
def fitsT (T : List Sk) (a b : Ty) : Bool :=
 if a.1 = 4 /\ b.1 = 4 then decide (a = b) || subT T a.2 b.2 else if a.1 = 6 /\ (b.1 = 3 ∨ b.1 = 4) then true else decide (a = b) && decide (a.1 ≠ 7)
def refB (a : Ty) : Bool := decide (a.1 = 3) || (decide (a.1 = 4) || decide (a.1 = 6))
def allT (T : List Sk) : List Ty -> List Ty -> List Ty
 | a :: l,b :: m => joinT T a b :: allT T l m
 | _,_ => []
end Go.Proofs.YtfpeakkbbfnhcaaGreat.R
namespace Go.Proofs.YtfpeakkbbfnhcaaGreat.R
open Go.RowKit Go.Proofs.YtfpeakkbbfnhcaaGreat.D Go.Proofs.YtfpeakkbbfnhcaaGreat.O Go.Proofs.YtfpeakkbbfnhcaaGreat.A
abbrev Fr := Bool × List Ty × List Ty
def noFr : Fr := (false,[],[])
def intT : Ty := (1,es)
def strT : Ty := (2,es)
def arrT : Ty := (3,es)
def lastT (S : List Ty) : Ty := S.getLastD topT
def joinF (T : List Sk) (a b : Fr) : Fr × Int :=
 if a.1 = false then (b,0) else if b.1 = false then (a,0) else if ¬ a.2.2.length = b.2.2.length then (noFr,30) else if ¬ a.2.1.length = b.2.1.length then (noFr,28) else ((true,allT T a.2.1 b.2.1,allT T a.2.2 b.2.2),0)
def entryP (class_ : ByteArray) (params : List Ty) (st : Bool) (loc : Int) : Fr :=
 (true,(((if st then [] else [((4,class_) : Ty)]) ++ params) ++ List.replicate loc.toNat topT).take loc.toNat,[])
def caughtP (f : Fr) (c : ByteArray) : Fr := (f.1,f.2.1,[(4,c)])
end Go.Proofs.YtfpeakkbbfnhcaaGreat.R
namespace Go.Proofs.YtfpeakkbbfnhcaaGreat.R
open Go.RowKit Go.Proofs.YtfpeakkbbfnhcaaGreat.D Go.Proofs.YtfpeakkbbfnhcaaGreat.O Go.Proofs.YtfpeakkbbfnhcaaGreat.A
theorem tl_ne {n : ByteArray} (a : Array UInt8) (h : n ≠ ⟨a⟩) : (n.toList == a.toList) = false := by
 rw [beq_eq_false_iff_ne]
 intro e
 refine h (Go.Proofs.YtfpeakkbbfnhcaaGreat.txt_inj ?_)
 rw [e,Lib.toList_data]
theorem tl_eq {n : ByteArray} (a : Array UInt8) (h : n = ⟨a⟩) : (n.toList == a.toList) = true := by
 rw [h,Lib.toList_data]; simp
theorem below_alR (w : World) (o : Obj) : Below w.heap.size w (w.alloc o) := (Below.refl _ _).alloc (Nat.le_refl _) _
def NoN (n : ByteArray) : Prop := (n.toList == [79,98,106,101,99,116]) = false /\ (n.toList == [70,97,117,108,116]) = false /\ (n.toList == [78,117,108,108,70,97,117,108,116]) = false /\ (n.toList == [66,111,117,110,100,115,70,97,117,108,116]) = false /\ (n.toList == [67,97,115,116,70,97,117,108,116]) = false /\ (n.toList == [90,101,114,111,70,97,117,108,116]) = false /\ (n.toList == [83,105,122,101,70,97,117,108,116]) = false
theorem no_blt {n : ByteArray} (h : bltS n = none) : NoN n := by
 have h1 : n ≠ objT := by rintro rfl; cases h
 have h2 : n ≠ fltT := by rintro rfl; cases h
 have h3 : n ∉ fivT := by
  intro h3
  unfold bltS at h
  rw [if_neg h1,if_neg h2,if_pos (S.hasB_in h3)] at h
  cases h
 unfold fivT at h3
 simp only [List.mem_cons,List.not_mem_nil,or_false,not_or] at h3
 obtain ⟨g0,g1,g2,g3,g4⟩ := h3
 exact ⟨tl_ne #[79,98,106,101,99,116] h1,tl_ne #[70,97,117,108,116] h2,tl_ne #[78,117,108,108,70,97,117,108,116] g0,tl_ne #[66,111,117,110,100,115,70,97,117,108,116] g1,tl_ne #[67,97,115,116,70,97,117,108,116] g2,tl_ne #[90,101,114,111,70,97,117,108,116] g3,tl_ne #[83,105,122,101,70,97,117,108,116] g4⟩
theorem blt_no (n : ByteArray) (w : World) (hb : bltS n = none) : Calls Tryz.prog 125 #[.string n] w fun e w' => e = .returned (.tuple #[.agg #[.string ⟨#[]⟩,.string ⟨#[]⟩,.slice none 0 0,.int .i64 0,.slice none 0 0,.slice none 0 0],.bool false]) /\ Below w.heap.size w w' := by
 obtain ⟨f0,f1,f2,f3,f4,f5,f6⟩ := no_blt hb
 clear hb
 go_enter Tryz.func125,Tryz.ntmps125
 go_wp2
 refine bodyPost_ret (v := .tuple #[.agg #[.string ⟨#[]⟩,.string ⟨#[]⟩,.slice none 0 0,.int .i64 0,.slice none 0 0,.slice none 0 0],.bool false]) (by simp [*,results,Tryz.results125,go_sem]) rfl ⟨rfl,?_⟩
 exact below_alR _ _
theorem blt_obj (w : World) : Calls Tryz.prog 125 #[.string ⟨#[79,98,106,101,99,116]⟩] w fun e w' => e = .returned (.tuple #[.agg #[.string ⟨#[79,98,106,101,99,116]⟩,.string ⟨#[]⟩,.slice none 0 0,.int .i64 1,.slice none 0 0,.slice none 0 0],.bool true]) /\ Below w.heap.size w w' := by
 go_enter Tryz.func125,Tryz.ntmps125
 go_wp2
 refine bodyPost_ret (v := .tuple #[.agg #[.string ⟨#[79,98,106,101,99,116]⟩,.string ⟨#[]⟩,.slice none 0 0,.int .i64 1,.slice none 0 0,.slice none 0 0],.bool true]) (by simp [*,results,Tryz.results125,go_sem]) rfl ⟨rfl,?_⟩
 exact below_alR _ _
theorem blt_flt (w : World) : Calls Tryz.prog 125 #[.string ⟨#[70,97,117,108,116]⟩] w fun e w' => e = .returned (.tuple #[.agg #[.string ⟨#[70,97,117,108,116]⟩,.string ⟨#[79,98,106,101,99,116]⟩,.slice none 0 0,.int .i64 1,.slice none 0 0,.slice none 0 0],.bool true]) /\ Below w.heap.size w w' := by
 go_enter Tryz.func125,Tryz.ntmps125
 go_wp2
 refine bodyPost_ret (v := .tuple #[.agg #[.string ⟨#[70,97,117,108,116]⟩,.string ⟨#[79,98,106,101,99,116]⟩,.slice none 0 0,.int .i64 1,.slice none 0 0,.slice none 0 0],.bool true]) (by simp [*,results,Tryz.results125,go_sem]) rfl ⟨rfl,?_⟩
 exact below_alR _ _
theorem blt_f0 (w : World) : Calls Tryz.prog 125 #[.string ⟨#[78,117,108,108,70,97,117,108,116]⟩] w fun e w' => e = .returned (.tuple #[.agg #[.string ⟨#[78,117,108,108,70,97,117,108,116]⟩,.string ⟨#[70,97,117,108,116]⟩,.slice none 0 0,.int .i64 1,.slice none 0 0,.slice none 0 0],.bool true]) /\ Below w.heap.size w w' := by
 go_enter Tryz.func125,Tryz.ntmps125
 go_wp2
 refine bodyPost_ret (v := .tuple #[.agg #[.string ⟨#[78,117,108,108,70,97,117,108,116]⟩,.string ⟨#[70,97,117,108,116]⟩,.slice none 0 0,.int .i64 1,.slice none 0 0,.slice none 0 0],.bool true]) (by simp [*,results,Tryz.results125,go_sem]) rfl ⟨rfl,?_⟩
 exact below_alR _ _
theorem blt_f1 (w : World) : Calls Tryz.prog 125 #[.string ⟨#[66,111,117,110,100,115,70,97,117,108,116]⟩] w fun e w' => e = .returned (.tuple #[.agg #[.string ⟨#[66,111,117,110,100,115,70,97,117,108,116]⟩,.string ⟨#[70,97,117,108,116]⟩,.slice none 0 0,.int .i64 1,.slice none 0 0,.slice none 0 0],.bool true]) /\ Below w.heap.size w w' := by
 go_enter Tryz.func125,Tryz.ntmps125
 go_wp2
 refine bodyPost_ret (v := .tuple #[.agg #[.string ⟨#[66,111,117,110,100,115,70,97,117,108,116]⟩,.string ⟨#[70,97,117,108,116]⟩,.slice none 0 0,.int .i64 1,.slice none 0 0,.slice none 0 0],.bool true]) (by simp [*,results,Tryz.results125,go_sem]) rfl ⟨rfl,?_⟩
 exact below_alR _ _
theorem blt_f2 (w : World) : Calls Tryz.prog 125 #[.string ⟨#[67,97,115,116,70,97,117,108,116]⟩] w fun e w' => e = .returned (.tuple #[.agg #[.string ⟨#[67,97,115,116,70,97,117,108,116]⟩,.string ⟨#[70,97,117,108,116]⟩,.slice none 0 0,.int .i64 1,.slice none 0 0,.slice none 0 0],.bool true]) /\ Below w.heap.size w w' := by
 go_enter Tryz.func125,Tryz.ntmps125
 go_wp2
 refine bodyPost_ret (v := .tuple #[.agg #[.string ⟨#[67,97,115,116,70,97,117,108,116]⟩,.string ⟨#[70,97,117,108,116]⟩,.slice none 0 0,.int .i64 1,.slice none 0 0,.slice none 0 0],.bool true]) (by simp [*,results,Tryz.results125,go_sem]) rfl ⟨rfl,?_⟩
 exact below_alR _ _
theorem blt_f3 (w : World) : Calls Tryz.prog 125 #[.string ⟨#[90,101,114,111,70,97,117,108,116]⟩] w fun e w' => e = .returned (.tuple #[.agg #[.string ⟨#[90,101,114,111,70,97,117,108,116]⟩,.string ⟨#[70,97,117,108,116]⟩,.slice none 0 0,.int .i64 1,.slice none 0 0,.slice none 0 0],.bool true]) /\ Below w.heap.size w w' := by
 go_enter Tryz.func125,Tryz.ntmps125
 go_wp2
 refine bodyPost_ret (v := .tuple #[.agg #[.string ⟨#[90,101,114,111,70,97,117,108,116]⟩,.string ⟨#[70,97,117,108,116]⟩,.slice none 0 0,.int .i64 1,.slice none 0 0,.slice none 0 0],.bool true]) (by simp [*,results,Tryz.results125,go_sem]) rfl ⟨rfl,?_⟩
 exact below_alR _ _
theorem blt_f4 (w : World) : Calls Tryz.prog 125 #[.string ⟨#[83,105,122,101,70,97,117,108,116]⟩] w fun e w' => e = .returned (.tuple #[.agg #[.string ⟨#[83,105,122,101,70,97,117,108,116]⟩,.string ⟨#[70,97,117,108,116]⟩,.slice none 0 0,.int .i64 1,.slice none 0 0,.slice none 0 0],.bool true]) /\ Below w.heap.size w w' := by
 go_enter Tryz.func125,Tryz.ntmps125
 go_wp2
 refine bodyPost_ret (v := .tuple #[.agg #[.string ⟨#[83,105,122,101,70,97,117,108,116]⟩,.string ⟨#[70,97,117,108,116]⟩,.slice none 0 0,.int .i64 1,.slice none 0 0,.slice none 0 0],.bool true]) (by simp [*,results,Tryz.results125,go_sem]) rfl ⟨rfl,?_⟩
 exact below_alR _ _
theorem blt_yes (n s : ByteArray) (w : World) (hb : bltS n = some s) : Calls Tryz.prog 125 #[.string n] w fun e w' => e = .returned (.tuple #[.agg #[.string n,.string s,.slice none 0 0,.int .i64 1,.slice none 0 0,.slice none 0 0],.bool true]) /\ Below w.heap.size w w' := by
 unfold bltS at hb
 by_cases h1 : n = objT
 ·rw [if_pos h1] at hb
  cases hb
  subst h1
  exact blt_obj w
 ·rw [if_neg h1] at hb
  by_cases h2 : n = fltT
  ·rw [if_pos h2] at hb
   cases hb
   subst h2
   exact blt_flt w
  ·rw [if_neg h2] at hb
   by_cases h3 : n ∈ fivT
   ·rw [if_pos (S.hasB_in h3)] at hb
    cases hb
    unfold fivT at h3
    simp only [List.mem_cons,List.not_mem_nil,or_false] at h3
    rcases h3 with rfl | rfl | rfl | rfl | rfl
    ·exact blt_f0 w
    ·exact blt_f1 w
    ·exact blt_f2 w
    ·exact blt_f3 w
    ·exact blt_f4 w
   ·rw [if_neg (by rw [S.hasB_out h3]; simp)] at hb
    cases hb
end Go.Proofs.YtfpeakkbbfnhcaaGreat.R
