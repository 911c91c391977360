/- Parts of the proof of StreMarks, put together from smaller texts (blanks that Lean does not want are struck). Conditions: those that each theorem writes out. -/
import Derived.BigQuiet
import Derived.Deep.AppendSrc
import Derived.Deep.DeepCutAuto
import Derived.Deep.DrawnRows
import Derived.Deep.LoopGhost
import Derived.Deep.Onto
import Derived.Deep.QuietTactic
import Derived.Deep.RegionHeld3
import Derived.Deep.RegionLaw
import Derived.Deep.RegionWith
import Derived.Deep.Upon
import Derived.Great.BuildSlice
import Derived.Laws.AppendOwnNone
import Derived.Laws.Cover4
import Derived.Laws.Tables
import Derived.Lib.AppendStr
import Derived.Lib.ConvBytes
import Derived.Lib.CountLaws
import Derived.Lib.Hide
import Derived.Lib.Join
import Derived.Lib.MapLaws
import Derived.Lib.Replace
import Derived.Lib.SlTrimSet
import Derived.Lib.TrimAscii
import Derived.Shelf.GgClosure.StringsIndexFunc
import Derived.Shelf.GgClosure.StringsTrimFunc
import Derived.Shelf.LaysC
import Derived.Shelf.LaysM
import Derived.Shelf.Small.Strs
import Derived.Shelf.Small.Utf8
import Derived.Shelf.Small.Wraps
import Derived.Shelf.Strconv.Clone
import Derived.Shelf.Strconv.Itoa0
import Derived.Shelf.Strconv.SyntaxError
import Derived.Shelf.Strconv.ToError
import Derived.Shelf.Strings.AsciiSet
import Derived.Shelf.Strings.Builder1
import Derived.Shelf.Strings.Builder2
import Derived.Shelf.Strings.BuilderF
import Derived.Shelf.Strings.BuilderK
import Derived.Shelf.Strings.BuilderRune
import Derived.Shelf.Strings.Count
import Derived.Shelf.Strings.LastIndex
import Derived.Shelf.Strings.OnBuilder
import Derived.Shelf.Strings.Prefix
import Derived.Shelf.Strings.Runes
import Derived.Shelf.Strings.Search1
import Derived.Shelf.Strings.Search2
import Derived.Shelf.Strings.Search3
import Derived.Shelf.Strings.Shaped
import Derived.Shelf.Strings.SlTrimAscii
import Derived.Shelf.Strings.Split
import Derived.Shelf.Strings.Trim
import Derived.Shelf.Unicode.DecodeAny
import Derived.Shelf.Unicode.DecodeLast
import Derived.Shelf.Unicode.DecodeSlow
import Derived.StillTailTactics
import Derived.WalkKit
import Derived.WalkLawsBesides
import Derived.WalkSpells
import Derived.Test.YthcmkpiajkbpnaaGreatDoorProg
import Derived.Test.YthcmkpiajkbpnaaGreatDoorZ00
import Derived.Test.YthcmkpiajkbpnaaGreatDoorZ01
import Derived.Test.YthcmkpiajkbpnaaGreatDoorZ02
import Derived.Test.YthcmkpiajkbpnaaGreatDoorZ03
import Derived.Test.YthcmkpiajkbpnaaGreatDoorZ04
import Derived.Test.YthcmkpiajkbpnaaGreatDoorZ05
import Derived.Test.YthcmkpiajkbpnaaGreatDoorZ06
import Derived.Test.YthcmkpiajkbpnaaGreatDoorZ07
import Derived.Test.YthcmkpiajkbpnaaGreatDoorZ08
import Derived.Test.YthcmkpiajkbpnaaGreatDoorZ09
import Derived.Test.YthcmkpiajkbpnaaGreatDoorZ10
import Derived.Test.YthcmkpiajkbpnaaGreatDoorZ11
namespace Go.Proofs.YthcmkpiajkbpnaaGreatDoor
open Go.RowKit
def IsInts (k:IntKind) (B:Nat) (w:World) (v:Value) (xs:List Int):Prop:=
 ∃ ao cap,v=.slice ao xs.length cap∧xs.length≤cap∧cap≤maxLen∧(ao=none→cap=0)∧(0<xs.length→∃ b o,ao=some ⟨b,o,none⟩∧b<B∧∀ j,j<xs.length→w.cell? ⟨b,o+j,none⟩=some (.int k (xs.getD j 0)))
theorem ints_in {k:IntKind} {w:World} {x:Addr} {len cap:Nat} {zs:List Int} (hl:len≤cap) (hm:cap≤maxLen) (hz:zs.length=cap) (hc:∀ i,i<zs.length→w.cell? (x.add i)=some (.int k (zs.getD i 0))) :
  IsInts k w.heap.size w (.slice (some x) len cap) (zs.take len):=by
 have hlen:(zs.take len).length=len:=by rw[List.length_take];omega
 refine ⟨some x,cap,by rw[hlen],by omega,hm,(fun h=>by cases h),fun hp=>?_⟩
 rw[hlen] at hp
 have h0:=hc 0 (by omega)
 obtain ⟨b,off,spot⟩:=x
 have hspot:spot=none:=by simpa [Addr.add] using World.cell?_spot h0
 subst hspot
 refine ⟨b,off,rfl,?_,fun j hj=>?_⟩
 ·have:=World.block_lt_of_cell? w _ h0
  simpa [Addr.add] using this
 ·rw[hlen] at hj
  have:=hc j (by omega)
  rw[Addr.add_lit] at this
  rw[this]
  simp[List.getD,hj]
end Go.Proofs.YthcmkpiajkbpnaaGreatDoor
namespace Go.Proofs.YthcmkpiajkbpnaaGreatDoor
open Go.RowKit
theorem lowZ_range (x n:Int) (h:1≤n):0≤lowZ x n∧lowZ x n<n:=
 ⟨Int.emod_nonneg _ (by omega),Int.emod_lt_of_pos _ (by omega)⟩
theorem low_eq (x n:Int) (h1:1≤n) (h2:n≤9223372036854775807):wrap64 ((IntKind.u64.wrap x).tmod n)=lowZ x n:=by
 have hu:IntKind.u64.wrap x=x % 18446744073709551616:=by simp[IntKind.wrap,IntKind.bits,IntKind.signed]
 have h0:0≤x % 18446744073709551616:=Int.emod_nonneg _ (by omega)
 have hr:=lowZ_range x n h1
 rw[hu,Int.tmod_eq_emod_of_nonneg h0]
 change wrap64 (lowZ x n)=lowZ x n
 unfold wrap64
 omega
set_option maxHeartbeats 400000 in
theorem Low_any (x n:Int) (w:World) (h1:1≤n) (h2:n≤9223372036854775807) :
  Calls Tryz.prog 7 #[.int .i64 x,.int .i64 n] w fun e w'=>e=.returned (.int .i64 (lowZ x n))∧w=w':=by
 have H:=Lib.hid (low_eq x n h1 h2)
 go_enter Tryz.func7,Tryz.ntmps7
 go_wp2
 go_ret
 exact ⟨by rw[←H.out];rfl,rfl⟩
theorem Low_is (y:Int) (x n:Int) (w:World) (h1:1≤n) (h2:n≤9223372036854775807) (hy:lowZ x n=y) :
  Calls Tryz.prog 7 #[.int .i64 x,.int .i64 n] w fun e w'=>e=.returned (.int .i64 y)∧w=w':=by
 subst hy;exact Low_any x n w h1 h2
end Go.Proofs.YthcmkpiajkbpnaaGreatDoor
namespace Go.Proofs.YthcmkpiajkbpnaaGreatDoor
open Go.RowKit
theorem Blk.inv {s:ByteArray} {a b p k c:Nat} (h:Blk s a k c) (ha:a<s.size) (hb:RowE s a b) (hp:FirN s a b p) :
  (p≠b∧k=0∧c=a)∨(p=b∧∃ k',k=k'+1∧Blk s (b+1) k' c):=by
 cases h with
 | over h=>omega
 | text _ hb' hp' hn=>
  obtain rfl:=hb.uniq hb'
  obtain rfl:=hp.uniq hp'
  exact .inl ⟨hn,rfl,rfl⟩
 | more _ hb' hp' hr=>
  obtain rfl:=hb.uniq hb'
  obtain rfl:=hp.uniq hp'
  exact .inr ⟨rfl,_,rfl,hr⟩
theorem Blk.uniq {s:ByteArray} {a k c:Nat} (h:Blk s a k c):∀ {k' c'},Blk s a k' c'→k=k'∧c=c':=by
 induction h with
 | over h=>intro k' c' h';obtain ⟨rfl,rfl⟩:=h'.end h;exact ⟨rfl,rfl⟩
 | text ha hb hp hn=>
  intro k' c' h'
  rcases h'.inv ha hb hp with ⟨_,rfl,rfl⟩|⟨h,_⟩
  ·exact ⟨rfl,rfl⟩
  ·exact absurd h hn
 | more ha hb hp _ ih=>
  intro k' c' h'
  rcases h'.inv ha hb hp with ⟨h,_⟩|⟨_,m,rfl,hr⟩
  ·exact absurd rfl h
  ·obtain ⟨rfl,rfl⟩:=ih hr
   exact ⟨rfl,rfl⟩
end Go.Proofs.YthcmkpiajkbpnaaGreatDoor
namespace Go.Proofs.YthcmkpiajkbpnaaGreatDoor
open Go.RowKit
theorem pF_sound (s:ByteArray) (fl:Bool) (A T:List UInt8) (E:Nat) (C:Int):∀ (g p e:Nat) (a t:List UInt8),pF s fl g p e a t=some (A,T,E,C)→PZ s fl A T E C p e a t:=by
 intro g
 induction g with
 | zero=>intro p e a t h;cases h
 | succ g ih=>
  intro p e a t h
  unfold pF at h
  split at h
  ·rename_i h38
   split at h
   ·rename_i h0
    cases h
    exact .anchor0 h38.1 h38.2 h0 rfl rfl rfl rfl
   ·rename_i h0
    have hn:0<nmN s (p+1):=by omega
    have ha:a=[]:=Decidable.byContradiction fun hc=>h0 (.inr hc)
    split at h
    ·rename_i hf
     cases h
     exact .anchorX h38.1 h38.2 hn ha rfl hf rfl rfl rfl rfl
    ·rename_i hf
     rw[Bool.not_eq_false] at hf
     split at h
     ·rename_i hw
      cases h
      exact .anchorL h38.1 h38.2 hn ha rfl hf hw rfl rfl rfl rfl
     ·exact .anchor h38.1 h38.2 hn ha rfl hf (by omega) (ih _ _ _ _ h)
  ·rename_i h38
   split at h
   ·rename_i h33
    split at h
    ·rename_i h0
     cases h
     exact .tag0 h33.1 h33.2 h0 rfl rfl rfl rfl
    ·rename_i h0
     have h0:t=[]:=Decidable.byContradiction fun hc=>h0 hc
     split at h
     ·rename_i hf
      cases h
      exact .tagX h33.1 h33.2 h0 rfl hf rfl rfl rfl rfl
     ·rename_i hf
      rw[Bool.not_eq_false] at hf
      split at h
      ·rename_i hw
       cases h
       exact .tagL h33.1 h33.2 h0 rfl hf hw rfl rfl rfl rfl
      ·exact .tag h33.1 h33.2 h0 rfl hf (by omega) (ih _ _ _ _ h)
   ·rename_i h33
    cases h
    exact .none (fun hc=>by rcases hc with ⟨k1,k2|k2⟩;exact h38 ⟨k1,k2⟩;exact h33 ⟨k1,k2⟩) rfl rfl rfl rfl
end Go.Proofs.YthcmkpiajkbpnaaGreatDoor
namespace Go.Proofs.YthcmkpiajkbpnaaGreatDoor
open Go.RowKit
theorem QuoZ.of {s:ByteArray} {k:Nat} {n:Int} {T:List UInt8} {E:Nat} {O:Bool} {C:Int} (hk:k<s.size) (hq:byt s k=39∨byt s k=34) (h:QZ s (byt s k) n T E O C (k+1) false [] [] []):QuoZ s (k:Int) n T (E:Int) O C:=by
 unfold QuoZ
 rw[Int.toNat_natCast,if_pos ⟨by omega,hk,hq⟩]
 exact ⟨E,rfl,h⟩
end Go.Proofs.YthcmkpiajkbpnaaGreatDoor
namespace Go.Proofs.YthcmkpiajkbpnaaGreatDoor
open Go.RowKit
def bF (s:ByteArray) (d c w:Nat) (fo:Bool):Nat→Nat→List (List UInt8)→Nat→Nat→Bool→Option (List UInt8 × Nat × Int)
 | 0,_,_,_,_,_=>none
 | g+1,p,R,L,h,f=>
  if s.size≤p then some (bTxt c fo R L (lfs s s.size-lfs s h),s.size,0)
  else
   let b:=fndB s.size (fun b=>decide (RowE s p b))
   let i:=fndB s.size (fun i=>decide (InN s p b i))
   let q:=fndB s.size (fun q=>decide (FirN s p b q))
   if RowE s p b∧InN s p b i∧FirN s p b q then
    if p+i=b then
     if f=true∧d=0∧w≤s.size∧w<i then some ([],p+w,5)
     else bF s d c w fo g (b+1) (R++[rowT s p b w]) (if w<b-p then R.length+1 else L) (if w<b-p then b else h) (f&&decide (p+i=b))
    else if i<w∨kindN s p b q=3∨kindN s p b q=4 then some (bTxt c fo R L (lfs s p-lfs s h),p,0)
    else bF s d c w fo g (b+1) (R++[rowT s p b w]) (if w<b-p then R.length+1 else L) (if w<b-p then b else h) (f&&decide (p+i=b))
   else none
theorem wF_sound (s:ByteArray) (n:Int) (w:Nat):∀ (g p:Nat),wF s n g p=some w→WZ s n w p:=by
 intro g
 induction g with
 | zero=>intro p h;rw[wF] at h;cases h
 | succ g ih=>
  intro p h
  rw[wF] at h
  split at h
  ·rename_i h1
   cases h
   exact .over h1 rfl
  ·rename_i h1
   dsimp only at h
   split at h
   ·rename_i h2
    split at h
    ·rename_i h3
     exact .blank (by omega) h2.1 h2.2.1 h3 (ih _ h)
    ·rename_i h3
     have e:=Option.some.inj h
     exact .text (by omega) h2.1 h2.2.1 h2.2.2 h3 e.symm
   ·cases h
theorem bF_sound (s:ByteArray) (d c w:Nat) (fo:Bool) (T:List UInt8) (E:Nat) (C:Int):∀ (g p:Nat) (R:List (List UInt8)) (L h:Nat) (f:Bool),bF s d c w fo g p R L h f=some (T,E,C)→BZ s d c w fo T E C p R L h f:=by
 intro g
 induction g with
 | zero=>intro p R L h f hh;rw[bF] at hh;cases hh
 | succ g ih=>
  intro p R L h f hh
  rw[bF] at hh
  split at hh
  ·rename_i h1
   cases hh
   exact .over h1 rfl rfl rfl
  ·rename_i h1
   dsimp only at hh
   split at hh
   ·rename_i h2
    split at hh
    ·rename_i h3
     split at hh
     ·rename_i h4
      obtain ⟨rfl,k2,k3,k4⟩:=h4
      cases hh
      exact .far (by omega) h2.1 h2.2.1 h3 k2 k3 k4 rfl rfl rfl
     ·rename_i h4
      exact .row (by omega) h2.1 h2.2.1 h2.2.2 (.inl ⟨h3,h4⟩) (ih _ _ _ _ _ hh)
    ·rename_i h3
     split at hh
     ·rename_i h4
      cases hh
      exact .stop (by omega) h2.1 h2.2.1 h2.2.2 h3 h4 rfl rfl rfl
     ·rename_i h4
      exact .row (by omega) h2.1 h2.2.1 h2.2.2 (.inr ⟨h3,by omega,fun e=>h4 (.inr (.inl e)),fun e=>h4 (.inr (.inr e))⟩) (ih _ _ _ _ _ hh)
   ·cases hh
end Go.Proofs.YthcmkpiajkbpnaaGreatDoor
namespace Go.Proofs.YthcmkpiajkbpnaaGreatDoor
open Go.RowKit
def mkB (l:List UInt8):ByteArray:=⟨l.toArray⟩
end Go.Proofs.YthcmkpiajkbpnaaGreatDoor
namespace Go.Proofs.YthcmkpiajkbpnaaGreatDoor
open Go.RowKit
def fnT (s:ByteArray) (p:Nat):Nat:=fndB s.size fun t=>decide (RowE s p t)
def fnQ (s:ByteArray) (p:Nat):Nat:=fndB s.size fun q=>decide (FirN s p (fnT s p) q)
def fnI (s:ByteArray) (p:Nat):Nat:=fndB s.size fun i=>decide (InN s p (fnT s p) i)
def fnE (s:ByteArray) (p:Nat):Nat:=fndB s.size fun e=>decide (BakN s (p+1) (fnT s p) e)
def fnX (s:ByteArray) (p:Nat):Nat:=fndB s.size fun x=>decide (TabN s p (fnQ s p) x)
def fnD (s:ByteArray) (p k:Nat):Nat:=if k=0 then lfs s p else lfs s p-lfs s k-1
def fnK (s:ByteArray) (p:Nat):Nat:=fndB s.size fun k=>decide (Abv s p k (fnD s p k))
def nF (s:ByteArray) (wi:Bool) (n:Int) (a:Nat) (sm:Bool):Nat→Nat→Bool→Bool→List (List UInt8 × Nat)→Bool→Option (List (List UInt8 × Nat) × Bool × Nat × Int)
 | 0,_,_,_,_,_=>none
 | g+1,p,m,f,o,b=>
  if p<s.size then
   (if m=true then
    (if RowE s p (fnT s p)∧FirN s p (fnT s p) (fnQ s p)∧InN s p (fnT s p) (fnI s p) then
     (if kindN s p (fnT s p) (fnQ s p)=3∨kindN s p (fnT s p) (fnQ s p)=4 then
      (if wi=false∨p=a then some (o,b,p,0) else some ([],false,p,5))
      else if kindN s p (fnT s p) (fnQ s p)=5 then
      (if wi=false then
       (if NoTab s p (fnQ s p) then nF s wi n a sm g p false f o b else if TabN s p (fnQ s p) (fnX s p) then some ([],false,fnX s p,4) else none)
       else if p≠a∧(fnI s p:Int)≤n then some ([],false,fnQ s p,5) else nF s wi n a sm g p false f o b)
      else nF s wi n a sm g p false f o b)
     else none)
    else if U.white (byt s p:Int)=true then nF s wi n a sm g (p+1) false f o b
    else if byt s p=10 then nF s wi n a sm g (p+1) true false o b
    else if ntB s p=true then
    (if RowE s p (fnT s p)∧BakN s (p+1) (fnT s p) (fnE s p)∧Abv s p (fnK s p) (fnD s p (fnK s p)) then
     nF s wi n a sm g (fnT s p) false f (o++[(pieceL s (p+1) (fnE s p),fnD s p (fnK s p))]) (if o=[] then (sm&&f) else b) else none)
    else some (o,b,p,0))
  else some (o,b,p,0)
theorem nF_sound (s:ByteArray) (wi:Bool) (n:Int) (a:Nat) (sm:Bool) (L:List (List UInt8 × Nat)) (S:Bool) (E:Nat) (C:Int):∀ (g p:Nat) (m f:Bool) (o:List (List UInt8 × Nat)) (b:Bool),nF s wi n a sm g p m f o b=some (L,S,E,C)→NZ s wi n a sm L S E C p m f o b:=by
 intro g
 induction g with
 | zero=>intro p m f o b h;cases h
 | succ g ih=>
  intro p m f o b h
  unfold nF at h
  split at h
  ·rename_i hp
   split at h
   ·rename_i hm
    subst hm
    split at h
    ·rename_i hr
     obtain ⟨hE,hF,hI⟩:=hr
     split at h
     ·rename_i hk
      split at h
      ·rename_i hw
       cases h
       exact .mark hp hE hF hk hw rfl rfl rfl rfl
      ·rename_i hw
       cases h
       exact .markX hp hE hF hk (by cases wi with|true=>rfl|false=>exact absurd (.inl rfl) hw) (fun e=>hw (.inr e)) rfl rfl rfl rfl
     ·rename_i hk
      have k3:kindN s p (fnT s p) (fnQ s p)≠3:=fun e=>hk (.inl e)
      have k4:kindN s p (fnT s p) (fnQ s p)≠4:=fun e=>hk (.inr e)
      split at h
      ·rename_i h5
       split at h
       ·rename_i hw
        subst hw
        split at h
        ·rename_i hx
         exact .met hp hE hF hI k3 k4 (fun _ _=>hx) (fun _ h=>by cases h) (ih _ _ _ _ _ h)
        ·split at h
         ·rename_i hx
          cases h
          exact .tab hp hE hF h5 rfl hx rfl rfl rfl rfl
         ·cases h
       ·rename_i hw
        have hw:wi=true:=by cases wi with|true=>rfl|false=>exact absurd rfl hw
        subst hw
        split at h
        ·rename_i hf
         cases h
         exact .far hp hE hF h5 rfl hf.1 hI hf.2 rfl rfl rfl rfl
        ·rename_i hf
         exact .met hp hE hF hI k3 k4 (fun _ h=>by cases h) (fun _ _ hpa=>by
          have:¬ (fnI s p:Int)≤n:=fun e=>hf ⟨hpa,e⟩
          omega) (ih _ _ _ _ _ h)
      ·rename_i h5
       exact .met hp hE hF hI k3 k4 (fun e=>absurd e h5) (fun e=>absurd e h5) (ih _ _ _ _ _ h)
    ·cases h
   ·rename_i hm
    have hm:m=false:=by cases m with|true=>exact absurd rfl hm|false=>rfl
    subst hm
    split at h
    ·rename_i hw
     exact .white hp hw (ih _ _ _ _ _ h)
    ·rename_i hw
     rw[Bool.not_eq_true] at hw
     split at h
     ·rename_i h10
      exact .lf hp h10 (ih _ _ _ _ _ h)
     ·rename_i h10
      split at h
      ·rename_i hn
       split at h
       ·rename_i hr
        exact .com hp hn hr.1 hr.2.1 hr.2.2 (ih _ _ _ _ _ h)
       ·cases h
      ·rename_i hn
       rw[Bool.not_eq_true] at hn
       cases h
       exact .stop hp hw h10 hn rfl rfl rfl rfl
  ·rename_i hp
   cases h
   exact .over hp rfl rfl rfl rfl
end Go.Proofs.YthcmkpiajkbpnaaGreatDoor
namespace Go.Proofs.YthcmkpiajkbpnaaGreatDoor
open Go.RowKit
def wordL:List (List UInt8):=[[97],[98,99],[100,45,101],[102,95,103],[104,49],[120,121,122],[195,169],[107,35,108],[109,58,110],[111,46,112]]
def word (n:Int):List UInt8:=wordL.getD (lowZ n 10).toNat []
theorem word_mem (n:Int):word n∈wordL:=by
 have hr:=lowZ_range n 10 (by omega)
 unfold word
 have hl:(lowZ n 10).toNat<wordL.length:=by show _<10;omega
 simp only[List.getD,List.getElem?_eq_getElem hl,Option.getD_some]
 exact List.getElem_mem _
set_option maxRecDepth 100000 in
set_option maxHeartbeats 400000 in
theorem WordOf_is (l:List UInt8) (n:Int) (w:World) (hl:word n=l) :
  Calls Tryz.prog 10 #[.int .i64 n] w fun e w'=>e=.returned (.string ⟨l.toArray⟩)∧Below w.heap.size w w':=by
 have hr:=lowZ_range n 10 (by omega)
 obtain ⟨k,hk⟩:∃ k:Nat,lowZ n 10=(k:Int):=⟨(lowZ n 10).toNat,by omega⟩
 rw[hk] at hr
 have hk10:k<10:=by omega
 have hlk:wordL.getD k []=l:=by rw[←hl];unfold word;rw[hk];rfl
 have hcell:(w.alloc (.cells #[.string ⟨#[97]⟩,.string ⟨#[98,99]⟩,.string ⟨#[100,45,101]⟩,.string ⟨#[102,95,103]⟩,.string ⟨#[104,49]⟩,.string ⟨#[120,121,122]⟩,.string ⟨#[195,169]⟩,.string ⟨#[107,35,108]⟩,.string ⟨#[109,58,110]⟩,.string ⟨#[111,46,112]⟩] 9)).cell? ⟨w.heap.size,k,none⟩=some (.string ⟨l.toArray⟩):=by
  rw[World.cell?_alloc_mark,←hlk]
  have H:∀ j:Fin 10,(#[Value.string ⟨#[97]⟩,.string ⟨#[98,99]⟩,.string ⟨#[100,45,101]⟩,.string ⟨#[102,95,103]⟩,.string ⟨#[104,49]⟩,.string ⟨#[120,121,122]⟩,.string ⟨#[195,169]⟩,.string ⟨#[107,35,108]⟩,.string ⟨#[109,58,110]⟩,.string ⟨#[111,46,112]⟩]:Array Value)[j.val]?=some (.string ⟨(wordL.getD j.val []).toArray⟩):=by
   intro j
   match j with
   | ⟨0,_⟩|⟨1,_⟩|⟨2,_⟩|⟨3,_⟩|⟨4,_⟩|⟨5,_⟩|⟨6,_⟩|⟨7,_⟩|⟨8,_⟩|⟨9,_⟩=>rfl
   | ⟨i+10,hi⟩=>exact absurd hi (by omega)
  exact H ⟨k,hk10⟩
 have HK:=Lib.hid hk
 clear hk hlk hl hr
 go_enter Tryz.func10,Tryz.ntmps10
 go_wp2_with (go_at_call 7;refine (Low_is (k:Int) _ _ _ (by omega) (by omega) HK.out).mono ?_;rintro e w' ⟨rfl,rfl⟩)
 go_ret
 exact ⟨rfl,(Below.refl _ _).alloc (Nat.le_refl _) _⟩
theorem IsInts.at {B:Nat} {w:World} {ao:Option Addr} {n cap:Nat} {xs:List Int} (h:IsInts .i64 B w (.slice ao n cap) xs) (hn:xs.length=n) (hp:0<n):∃ b o,ao=some ⟨b,o,none⟩∧b<B∧∀ j,j<n→w.cell? ⟨b,o+j,none⟩=some (.int .i64 (xs.getD j 0)):=by
 obtain ⟨ao',cap',e,h1,h2,h3,h4⟩:=h
 rw[hn] at e h4
 injection e with e1 e2 e3
 subst e1
 exact h4 hp
theorem IsInts.slice {k:IntKind} {B:Nat} {w:World} {v:Value} {xs:List Int} (h:IsInts k B w v xs):∃ ao cap,v=.slice ao xs.length cap∧xs.length≤cap∧cap≤maxLen:=by
 obtain ⟨ao,cap,rfl,h1,h2,_⟩:=h
 exact ⟨ao,cap,rfl,h1,h2⟩
end Go.Proofs.YthcmkpiajkbpnaaGreatDoor
namespace Go.Proofs.YthcmkpiajkbpnaaGreatDoor
open Go.RowKit
theorem mkB_append (a b:List UInt8):mkB a++mkB b=mkB (a++b):=by unfold mkB;rw[ByteArray.mk_append_mk]
end Go.Proofs.YthcmkpiajkbpnaaGreatDoor
namespace Go.Proofs.YthcmkpiajkbpnaaGreatDoor
open Go.RowKit
theorem IsD.one {R:Nat→Prop} {w:World} {d:DT} {cs:List Value} (h:IsD R w d cs):∀ u∈cs,u.oneCell'=true:=by
 obtain ⟨hv,dv,rc,fv,rfl,⟨_,_,rfl,_⟩,⟨_,_,rfl,_⟩,h3,⟨_,_,rfl,_⟩⟩:=h
 intro u hu
 simp only[List.mem_cons,List.mem_append,List.not_mem_nil,or_false] at hu
 rcases hu with rfl|rfl|rfl|hu|rfl
 ·rfl
 ·rfl
 ·rfl
 ·exact h3.one u hu
 ·rfl
section
variable {g:Nat} {s:ByteArray} {w wr:World} {p:Nat} {H:Coms} {ds:List (List UInt8)} {D:List DT} {hv dv kv:Value} {cs:List Value} {R:Nat→Prop}
end
end Go.Proofs.YthcmkpiajkbpnaaGreatDoor
namespace Go.Proofs.YthcmkpiajkbpnaaGreatDoor
open Go.RowKit
theorem PlaiG.stop {s:ByteArray} {n:Int} {fl:Bool} {g e t f:Nat} {R:List (List UInt8)} {one:Bool} (ht:RowE s e t) (hf:FirN s e t f) (h:f<t∨s.size≤t) :
  PlaiG s n fl (U.flowT R) e one 0 (g+1) e R one:=by
 intro t' f' ht' hf'
 obtain rfl:=ht.uniq ht'
 obtain rfl:=hf.uniq hf'
 rw[if_pos h]
 exact ⟨rfl,rfl,rfl,rfl⟩
theorem PlaiG.less {s:ByteArray} {n:Int} {fl:Bool} {g e t k a b i p:Nat} {R:List (List UInt8)} {one:Bool} (ht:RowE s e t) (hf:FirN s e t t) (h1:t<s.size) (hk:Blk s (t+1) k a) (h2:a<s.size)
  (hb:RowE s a b) (hi:InN s a b i) (hp:FirN s a b p) (h:kindN s a b p≠5∨(i:Int)≤n) :
  PlaiG s n fl (U.flowT R) e one 0 (g+1) e R one:=by
 intro t' f' ht' hf'
 obtain rfl:=ht.uniq ht'
 obtain rfl:=hf.uniq hf'
 rw[if_neg (by omega)]
 intro k' a' hk'
 obtain ⟨rfl,rfl⟩:=hk.uniq hk'
 rw[if_neg (by omega)]
 intro b' i' p' hb' hi' hp'
 obtain rfl:=hb.uniq hb'
 obtain rfl:=hi.uniq hi'
 obtain rfl:=hp.uniq hp'
 rw[if_pos h]
 exact ⟨rfl,rfl,rfl,rfl⟩
theorem PlaiZ.of {s:ByteArray} {k e:Nat} {n:Int} {fl:Bool} {T:List UInt8} {E:Nat} {O:Bool} {C:Int} (hb:begB s (k:Int) fl=true) (he:ParN s fl k e) (H:PlaiG s n fl T E O C (s.size+1) e [pieceL s k e] true):PlaiZ s (k:Int) n fl T (E:Int) O C:=by
 unfold PlaiZ
 rw[hb,if_neg (by decide)]
 refine ⟨E,rfl,fun e' he'=>?_⟩
 rw[Int.toNat_natCast] at he' ⊢
 obtain rfl:=he.uniq he'
 exact H
end Go.Proofs.YthcmkpiajkbpnaaGreatDoor
namespace Go.Proofs.YthcmkpiajkbpnaaGreatDoor
open Go.RowKit
theorem Pre.size {s:ByteArray} {p:Nat} {l:List UInt8} (h:Pre s p l) (hp:p≤s.size):p+l.length≤s.size:=by
 have:=h.length_le
 rw[drop_len] at this
 omega
theorem Pre.app {s:ByteArray} {p:Nat}:∀ {a b:List UInt8},Pre s p (a++b)→Pre s p a∧Pre s (p+a.length) b
 | [],b,h=>⟨List.nil_prefix,by simpa using h⟩
 | x :: a,b,h=>by
  obtain ⟨h1,h2,h3⟩:=h.cons
  obtain ⟨h4,h5⟩:=Pre.app (a:=a) h3
  refine ⟨?_,by rw[List.length_cons,show p+(a.length+1)=p+1+a.length by omega];exact h5⟩
  have:x :: a <+: (x :: a)++b:=List.prefix_append _ _
  exact this.trans h
theorem Pre.piece {s:ByteArray} {p:Nat} {a b:List UInt8} (h:Pre s p (a++b)):pieceL s p (p+a.length)=a:=by
 unfold pieceL
 rw[Nat.add_sub_cancel_left]
 obtain ⟨t,ht⟩:=h
 rw[←ht,List.append_assoc,List.take_left]
def wsp (b:UInt8):Bool:=decide (b=32∨b=9)
theorem wsp_white (b:UInt8):U.white (b.toNat:Int)=wsp b:=by
 have:∀ n:Fin 256,U.white (((UInt8.ofNat n.val).toNat:Nat):Int)=wsp (UInt8.ofNat n.val):=by decide +kernel
 have h:=this ⟨b.toNat,UInt8.toNat_lt b⟩
 rwa [show UInt8.ofNat b.toNat=b from UInt8.ofNat_toNat] at h
theorem u8_eq {b:UInt8} {n:Nat} (hn:n<256):b.toNat=n↔b=UInt8.ofNat n:=by
 constructor
 ·intro h;rw[←h];exact (UInt8.ofNat_toNat (x:=b)).symm
 ·intro h;rw[h];simp;omega
theorem pre_white {s:ByteArray}:∀ {l:List UInt8} {p:Nat},Pre s p l→(∀ j,j<p+(l.takeWhile wsp).length→p≤j→U.white (byt s j:Int)=true)∧Pre s (p+(l.takeWhile wsp).length) (l.dropWhile wsp)
 | [],p,h=>⟨fun j h1 h2=>by simp at h1;omega,h⟩
 | x :: l,p,h=>by
  obtain ⟨h1,h2,h3⟩:=h.cons
  rw[List.takeWhile_cons,List.dropWhile_cons]
  cases hx:wsp x with
  | true=>
   rw[if_pos rfl,if_pos rfl]
   obtain ⟨k1,k2⟩:=pre_white h3
   refine ⟨fun j j1 j2=>?_,by rw[List.length_cons,show p+((l.takeWhile wsp).length+1)=p+1+(l.takeWhile wsp).length by omega];exact k2⟩
   by_cases e:j=p
   ·rw[e,h2,wsp_white,hx]
   ·rw[List.length_cons] at j1
    exact k1 j (by omega) (by omega)
  | false=>
   rw[if_neg (by decide),if_neg (by decide)]
   exact ⟨fun j j1 j2=>by simp at j1;omega,h⟩
theorem pre_blank {s:ByteArray}:∀ {l:List UInt8} {p:Nat},Pre s p l→(∀ j,j<(l.takeWhile (·=32)).length→byt s (p+j)=32)∧(∀ x t,l.dropWhile (·=32)=x :: t→byt s (p+(l.takeWhile (·=32)).length)≠32)
 | [],p,h=>⟨fun j h1=>by simp at h1,fun x t e=>by cases e⟩
 | x :: l,p,h=>by
  obtain ⟨h1,h2,h3⟩:=h.cons
  rw[List.takeWhile_cons,List.dropWhile_cons]
  by_cases hx:x=32
  ·rw[if_pos (by simpa using hx),if_pos (by simpa using hx)]
   obtain ⟨k1,k2⟩:=pre_blank h3
   refine ⟨fun j j1=>?_,fun y t e=>?_⟩
   ·cases j with
    | zero=>rw[Nat.add_zero,h2,hx];rfl
    | succ j=>
     rw[show p+(j+1)=p+1+j by omega]
     exact k1 j (by simpa using j1)
   ·rw[List.length_cons,show p+((l.takeWhile (·=32)).length+1)=p+1+(l.takeWhile (·=32)).length by omega]
    exact k2 y t e
  ·rw[if_neg (by simpa using hx),if_neg (by simpa using hx)]
   exact ⟨fun j j1=>by simp at j1,fun y t e=>by
    rw[List.length_nil,Nat.add_zero,h2]
    intro hc
    exact hx ((u8_eq (by decide)).1 hc)⟩
theorem pre_row {s:ByteArray}:∀ {l:List UInt8} {p:Nat},Pre s p l→(∀ j,j<p+(l.takeWhile (·≠10)).length→p≤j→byt s j≠10)∧Pre s (p+(l.takeWhile (·≠10)).length) (l.dropWhile (·≠10))∧Pre s p (l.takeWhile (·≠10)++l.dropWhile (·≠10))
 | [],p,h=>⟨fun j h1 h2=>by simp at h1;omega,h,h⟩
 | x :: l,p,h=>by
  obtain ⟨h1,h2,h3⟩:=h.cons
  refine ⟨?_,?_,by rw[List.takeWhile_append_dropWhile];exact h⟩
  ·rw[List.takeWhile_cons]
   by_cases hx:x=10
   ·rw[if_neg (by simpa using hx)]
    exact fun j j1 j2=>by simp at j1;omega
   ·rw[if_pos (by simpa using hx)]
    obtain ⟨k1,_,_⟩:=pre_row h3
    intro j j1 j2
    rw[List.length_cons] at j1
    by_cases e:j=p
    ·rw[e,h2];intro hc;exact hx ((u8_eq (by decide)).1 hc)
    ·exact k1 j (by omega) (by omega)
  ·rw[List.takeWhile_cons,List.dropWhile_cons]
   by_cases hx:x=10
   ·rw[if_neg (by simpa using hx),if_neg (by simpa using hx)]
    exact h
   ·rw[if_pos (by simpa using hx),if_pos (by simpa using hx)]
    obtain ⟨_,k2,_⟩:=pre_row h3
    rw[List.length_cons,show p+((l.takeWhile (·≠10)).length+1)=p+1+(l.takeWhile (·≠10)).length by omega]
    exact k2
theorem tw_mem {p:UInt8→Bool}:∀ {l:List UInt8} {x:UInt8},x∈l.takeWhile p→p x=true
 | [],x,h=>by simp at h
 | y :: l,x,h=>by
  rw[List.takeWhile_cons] at h
  split at h
  ·rename_i hy
   rcases List.mem_cons.1 h with rfl|h
   ·exact hy
   ·exact tw_mem h
  ·simp at h
theorem dw_head {p:UInt8→Bool}:∀ {l r:List UInt8} {x:UInt8},l.dropWhile p=x :: r→p x=false
 | [],r,x,h=>by simp at h
 | y :: l,r,x,h=>by
  rw[List.dropWhile_cons] at h
  split at h
  ·exact dw_head h
  ·rename_i hy
   injection h with h1 h2
   rw[←h1]
   simpa using hy
def rtr (c:List UInt8):List UInt8:=(c.reverse.dropWhile wsp).reverse
theorem rtr_spec (c:List UInt8):∃ w,c=rtr c++w∧(∀ x∈w,wsp x=true)∧(rtr c=[]∨∃ y t,rtr c=t++[y]∧wsp y=false):=by
 refine ⟨(c.reverse.takeWhile wsp).reverse,?_,fun x hx=>?_,?_⟩
 ·unfold rtr
  rw[←List.reverse_append,List.takeWhile_append_dropWhile,List.reverse_reverse]
 ·rw[List.mem_reverse] at hx
  exact tw_mem hx
 ·unfold rtr
  cases hd:c.reverse.dropWhile wsp with
  | nil=>exact .inl rfl
  | cons y t=>
   refine .inr ⟨y,t.reverse,by rw[List.reverse_cons],?_⟩
   exact dw_head hd
theorem nt_of {s:ByteArray} {p:Nat} {pv:Bool} (hpv:pv=true↔(p=0∨U.white (byt s (p-1):Int)=true∨byt s (p-1)=10)):ntB s p=(decide (byt s p=35)&&pv):=by
 unfold ntB
 cases pv with
 | true=>rw[Bool.and_true];exact decide_eq_decide.2 ⟨fun h=>h.1,fun h=>⟨h,hpv.1 rfl⟩⟩
 | false=>rw[Bool.and_false,decide_eq_false_iff_not];intro h;exact absurd (hpv.2 h.2) (by decide)
theorem mk3_not {s:ByteArray} {a b ch:Nat} (h:byt s a≠ch):mk3 s a b ch=false:=by
 unfold mk3
 rw[decide_eq_false_iff_not]
 exact fun e=>h e.2.1
end Go.Proofs.YthcmkpiajkbpnaaGreatDoor
