/- Parts of the proof of TreeItems, put together from smaller texts (blanks that Lean does not want are struck). Conditions: those that each theorem writes out. -/
import Derived.BigQuiet
import Derived.Deep.QuietTactic
import Derived.Laws.AppendOwnNone
import Derived.Laws.Cover4
import Derived.Lib.CountLaws
import Derived.Lib.Hide
import Derived.Lib.MapLaws
import Derived.Lib.Replace
import Derived.Shelf.LaysC
import Derived.Shelf.LaysM
import Derived.Shelf.Small.Strs
import Derived.Shelf.Small.Utf8
import Derived.Shelf.Small.Wraps
import Derived.Shelf.Strconv.Clone
import Derived.Shelf.Strconv.SyntaxError
import Derived.Shelf.Strconv.ToError
import Derived.Shelf.Strings.AsciiSet
import Derived.Shelf.Strings.Builder1
import Derived.Shelf.Strings.BuilderF
import Derived.Shelf.Strings.BuilderK
import Derived.Shelf.Strings.BuilderRune
import Derived.Shelf.Strings.Count
import Derived.Shelf.Strings.LastIndex
import Derived.Shelf.Strings.Prefix
import Derived.Shelf.Strings.Runes
import Derived.Shelf.Strings.Search1
import Derived.Shelf.Strings.Search2
import Derived.Shelf.Strings.Search3
import Derived.Shelf.Strings.Shaped
import Derived.Shelf.Strings.Split
import Derived.Shelf.Strings.Trim
import Derived.Shelf.Unicode.DecodeSlow
import Derived.WalkKit
import Derived.WalkLawsBesides
import Derived.WalkSpells
import Derived.Test.YtafhgbokdfhapaaGreatDoorProg
import Derived.Test.YtafhgbokdfhapaaGreatDoorZ00
import Derived.Test.YtafhgbokdfhapaaGreatDoorZ01
import Derived.Test.YtafhgbokdfhapaaGreatDoorZ02
import Derived.Test.YtafhgbokdfhapaaGreatDoorZ03
import Derived.Test.YtafhgbokdfhapaaGreatDoorZ04
namespace Go.Proofs.YtafhgbokdfhapaaGreatDoor
open Go.RowKit
def IsInts (k:IntKind) (B:Nat) (w:World) (v:Value) (xs:List Int):Prop:=
 ∃ ao cap,v=.slice ao xs.length cap∧xs.length≤cap∧cap≤maxLen∧(ao=none→cap=0)∧(0<xs.length→∃ b o,ao=some ⟨b,o,none⟩∧b<B∧∀ j,j<xs.length→w.cell? ⟨b,o+j,none⟩=some (.int k (xs.getD j 0)))
theorem ints_in {k:IntKind} {w:World} {x:Addr} {len cap:Nat} {zs:List Int} (hl:len≤cap) (hm:cap≤maxLen) (hz:zs.length=cap) (hc:∀ i,i<zs.length→w.cell? (x.add i)=some (.int k (zs.getD i 0))) :
  IsInts k w.heap.size w (.slice (some x) len cap) (zs.take len):=by
 have hlen:(zs.take len).length=len:=by rw[List.length_take];omega
 refine ⟨some x,cap,by rw[hlen],by omega,hm,(fun h=>by cases h),fun hp=>?_⟩
 rw[hlen] at hp
 have h0:=hc 0 (by omega)
 obtain ⟨b,off,spot⟩:=x
 have hspot:spot=none:=by simpa [Addr.add] using World.cell?_spot h0
 subst hspot
 refine ⟨b,off,rfl,?_,fun j hj=>?_⟩
 ·have:=World.block_lt_of_cell? w _ h0
  simpa [Addr.add] using this
 ·rw[hlen] at hj
  have:=hc j (by omega)
  rw[Addr.add_lit] at this
  rw[this]
  simp[List.getD,hj]
end Go.Proofs.YtafhgbokdfhapaaGreatDoor
namespace Go.Proofs.YtafhgbokdfhapaaGreatDoor
open Go.RowKit
theorem lowZ_range (x n:Int) (h:1≤n):0≤lowZ x n∧lowZ x n<n:=
 ⟨Int.emod_nonneg _ (by omega),Int.emod_lt_of_pos _ (by omega)⟩
theorem low_eq (x n:Int) (h1:1≤n) (h2:n≤9223372036854775807):wrap64 ((IntKind.u64.wrap x).tmod n)=lowZ x n:=by
 have hu:IntKind.u64.wrap x=x % 18446744073709551616:=by simp[IntKind.wrap,IntKind.bits,IntKind.signed]
 have h0:0≤x % 18446744073709551616:=Int.emod_nonneg _ (by omega)
 have hr:=lowZ_range x n h1
 rw[hu,Int.tmod_eq_emod_of_nonneg h0]
 change wrap64 (lowZ x n)=lowZ x n
 unfold wrap64
 omega
set_option maxHeartbeats 400000 in
theorem Low_any (x n:Int) (w:World) (h1:1≤n) (h2:n≤9223372036854775807) :
  Calls Tryz.prog 10 #[.int .i64 x,.int .i64 n] w fun e w'=>e=.returned (.int .i64 (lowZ x n))∧w=w':=by
 have H:=Lib.hid (low_eq x n h1 h2)
 go_enter Tryz.func10,Tryz.ntmps10
 go_wp2
 go_ret
 exact ⟨by rw[←H.out];rfl,rfl⟩
theorem Low_is (y:Int) (x n:Int) (w:World) (h1:1≤n) (h2:n≤9223372036854775807) (hy:lowZ x n=y) :
  Calls Tryz.prog 10 #[.int .i64 x,.int .i64 n] w fun e w'=>e=.returned (.int .i64 y)∧w=w':=by
 subst hy;exact Low_any x n w h1 h2
end Go.Proofs.YtafhgbokdfhapaaGreatDoor
namespace Go.Proofs.YtafhgbokdfhapaaGreatDoor
open Go.RowKit
theorem size_mk (l:List UInt8):(⟨l.toArray⟩:ByteArray).size=l.length:=by simp[ByteArray.size]
end Go.Proofs.YtafhgbokdfhapaaGreatDoor
namespace Go.Proofs.YtafhgbokdfhapaaGreatDoor
open Go.RowKit
theorem IsKids.at {R:Nat→Prop} {w:World} {b:Nat}:∀ (ts:List NT) (o j:Nat) (hj:j<ts.length),IsKids R w b o ts→∃ cs,(∀ i,i<12→w.cell? ⟨b,o+j*12+i,none⟩=cs[i]?)∧IsN R w ts[j] cs
 | [],o,j,hj,h=>absurd hj (Nat.not_lt_zero _)
 | t :: ts,o,0,hj,h=>by
  unfold IsKids at h
  obtain ⟨cs,h1,h2⟩:=h.1
  exact ⟨cs,fun i hi=>by rw[Nat.zero_mul,Nat.add_zero];exact h1 i hi,h2⟩
 | t :: ts,o,j+1,hj,h=>by
  unfold IsKids at h
  obtain ⟨cs,h1,h2⟩:=IsKids.at ts (o+12) j (by simpa using hj) h.2
  refine ⟨cs,fun i hi=>?_,h2⟩
  rw[show o+(j+1)*12+i=o+12+j*12+i by omega]
  exact h1 i hi
end Go.Proofs.YtafhgbokdfhapaaGreatDoor
namespace Go.Proofs.YtafhgbokdfhapaaGreatDoor
open Go.RowKit
theorem lfs_same {s:ByteArray} {a:Nat}:∀ c,a≤c→(∀ j,j<c→a≤j→byt s j≠10)→lfs s c=lfs s a
 | 0,h,_=>by rw[show a=0 from by omega]
 | c+1,h,hn=>by
  by_cases e:a=c+1
  ·rw[e]
  ·rw[lfs_other (hn c (by omega) (by omega)),lfs_same c (by omega) (fun j h1 h2=>hn j (by omega) h2)]
end Go.Proofs.YtafhgbokdfhapaaGreatDoor
namespace Go.Proofs.YtafhgbokdfhapaaGreatDoor
open Go.RowKit
theorem Blk.inv {s:ByteArray} {a b p k c:Nat} (h:Blk s a k c) (ha:a<s.size) (hb:RowE s a b) (hp:FirN s a b p) :
  (p≠b∧k=0∧c=a)∨(p=b∧∃ k',k=k'+1∧Blk s (b+1) k' c):=by
 cases h with
 | over h=>omega
 | text _ hb' hp' hn=>
  obtain rfl:=hb.uniq hb'
  obtain rfl:=hp.uniq hp'
  exact .inl ⟨hn,rfl,rfl⟩
 | more _ hb' hp' hr=>
  obtain rfl:=hb.uniq hb'
  obtain rfl:=hp.uniq hp'
  exact .inr ⟨rfl,_,rfl,hr⟩
theorem Blk.uniq {s:ByteArray} {a k c:Nat} (h:Blk s a k c):∀ {k' c'},Blk s a k' c'→k=k'∧c=c':=by
 induction h with
 | over h=>intro k' c' h';obtain ⟨rfl,rfl⟩:=h'.end h;exact ⟨rfl,rfl⟩
 | text ha hb hp hn=>
  intro k' c' h'
  rcases h'.inv ha hb hp with ⟨_,rfl,rfl⟩|⟨h,_⟩
  ·exact ⟨rfl,rfl⟩
  ·exact absurd h hn
 | more ha hb hp _ ih=>
  intro k' c' h'
  rcases h'.inv ha hb hp with ⟨h,_⟩|⟨_,m,rfl,hr⟩
  ·exact absurd rfl h
  ·obtain ⟨rfl,rfl⟩:=ih hr
   exact ⟨rfl,rfl⟩
end Go.Proofs.YtafhgbokdfhapaaGreatDoor
namespace Go.Proofs.YtafhgbokdfhapaaGreatDoor
open Go.RowKit
def pF (s:ByteArray) (fl:Bool):Nat→Nat→Nat→List UInt8→List UInt8→Option (List UInt8 × List UInt8 × Nat × Int)
 | 0,_,_,_,_=>Option.none
 | g+1,p,e,a,t=>
  if p<s.size∧byt s p=38 then
   (if nmN s (p+1)=0∨a≠[] then some ([],[],p,5)
    else if fitB s fl (p+1+nmN s (p+1))=false then some ([],[],p+1+nmN s (p+1),5)
    else if whN s (p+1+nmN s (p+1))=0 then some (pieceL s (p+1) (p+1+nmN s (p+1)),t,p+1+nmN s (p+1),0)
    else pF s fl g (p+1+nmN s (p+1)+whN s (p+1+nmN s (p+1))) (p+1+nmN s (p+1)) (pieceL s (p+1) (p+1+nmN s (p+1))) t)
  else if p<s.size∧byt s p=33 then
   (if t≠[] then some ([],[],p,5)
    else if fitB s fl (p+tgN s p)=false then some ([],[],p+tgN s p,5)
    else if whN s (p+tgN s p)=0 then some (a,pieceL s p (p+tgN s p),p+tgN s p,0)
    else pF s fl g (p+tgN s p+whN s (p+tgN s p)) (p+tgN s p) a (pieceL s p (p+tgN s p)))
  else some (a,t,e,0)
theorem pF_sound (s:ByteArray) (fl:Bool) (A T:List UInt8) (E:Nat) (C:Int):∀ (g p e:Nat) (a t:List UInt8),pF s fl g p e a t=some (A,T,E,C)→PZ s fl A T E C p e a t:=by
 intro g
 induction g with
 | zero=>intro p e a t h;cases h
 | succ g ih=>
  intro p e a t h
  unfold pF at h
  split at h
  ·rename_i h38
   split at h
   ·rename_i h0
    cases h
    exact .anchor0 h38.1 h38.2 h0 rfl rfl rfl rfl
   ·rename_i h0
    have hn:0<nmN s (p+1):=by omega
    have ha:a=[]:=Decidable.byContradiction fun hc=>h0 (.inr hc)
    split at h
    ·rename_i hf
     cases h
     exact .anchorX h38.1 h38.2 hn ha rfl hf rfl rfl rfl rfl
    ·rename_i hf
     rw[Bool.not_eq_false] at hf
     split at h
     ·rename_i hw
      cases h
      exact .anchorL h38.1 h38.2 hn ha rfl hf hw rfl rfl rfl rfl
     ·exact .anchor h38.1 h38.2 hn ha rfl hf (by omega) (ih _ _ _ _ h)
  ·rename_i h38
   split at h
   ·rename_i h33
    split at h
    ·rename_i h0
     cases h
     exact .tag0 h33.1 h33.2 h0 rfl rfl rfl rfl
    ·rename_i h0
     have h0:t=[]:=Decidable.byContradiction fun hc=>h0 hc
     split at h
     ·rename_i hf
      cases h
      exact .tagX h33.1 h33.2 h0 rfl hf rfl rfl rfl rfl
     ·rename_i hf
      rw[Bool.not_eq_false] at hf
      split at h
      ·rename_i hw
       cases h
       exact .tagL h33.1 h33.2 h0 rfl hf hw rfl rfl rfl rfl
      ·exact .tag h33.1 h33.2 h0 rfl hf (by omega) (ih _ _ _ _ h)
   ·rename_i h33
    cases h
    exact .none (fun hc=>by rcases hc with ⟨k1,k2|k2⟩;exact h38 ⟨k1,k2⟩;exact h33 ⟨k1,k2⟩) rfl rfl rfl rfl
end Go.Proofs.YtafhgbokdfhapaaGreatDoor
namespace Go.Proofs.YtafhgbokdfhapaaGreatDoor
open Go.RowKit
theorem QuoZ.of {s:ByteArray} {k:Nat} {n:Int} {T:List UInt8} {E:Nat} {O:Bool} {C:Int} (hk:k<s.size) (hq:byt s k=39∨byt s k=34) (h:QZ s (byt s k) n T E O C (k+1) false [] [] []):QuoZ s (k:Int) n T (E:Int) O C:=by
 unfold QuoZ
 rw[Int.toNat_natCast,if_pos ⟨by omega,hk,hq⟩]
 exact ⟨E,rfl,h⟩
end Go.Proofs.YtafhgbokdfhapaaGreatDoor
namespace Go.Proofs.YtafhgbokdfhapaaGreatDoor
open Go.RowKit
theorem PlaiG.stop {s:ByteArray} {n:Int} {fl:Bool} {g e t f:Nat} {R:List (List UInt8)} {one:Bool} (ht:RowE s e t) (hf:FirN s e t f) (h:f<t∨s.size≤t) :
  PlaiG s n fl (U.flowT R) e one 0 (g+1) e R one:=by
 intro t' f' ht' hf'
 obtain rfl:=ht.uniq ht'
 obtain rfl:=hf.uniq hf'
 rw[if_pos h]
 exact ⟨rfl,rfl,rfl,rfl⟩
theorem PlaiG.less {s:ByteArray} {n:Int} {fl:Bool} {g e t k a b i p:Nat} {R:List (List UInt8)} {one:Bool} (ht:RowE s e t) (hf:FirN s e t t) (h1:t<s.size) (hk:Blk s (t+1) k a) (h2:a<s.size)
  (hb:RowE s a b) (hi:InN s a b i) (hp:FirN s a b p) (h:kindN s a b p≠5∨(i:Int)≤n) :
  PlaiG s n fl (U.flowT R) e one 0 (g+1) e R one:=by
 intro t' f' ht' hf'
 obtain rfl:=ht.uniq ht'
 obtain rfl:=hf.uniq hf'
 rw[if_neg (by omega)]
 intro k' a' hk'
 obtain ⟨rfl,rfl⟩:=hk.uniq hk'
 rw[if_neg (by omega)]
 intro b' i' p' hb' hi' hp'
 obtain rfl:=hb.uniq hb'
 obtain rfl:=hi.uniq hi'
 obtain rfl:=hp.uniq hp'
 rw[if_pos h]
 exact ⟨rfl,rfl,rfl,rfl⟩
theorem PlaiZ.of {s:ByteArray} {k e:Nat} {n:Int} {fl:Bool} {T:List UInt8} {E:Nat} {O:Bool} {C:Int} (hb:begB s (k:Int) fl=true) (he:ParN s fl k e) (H:PlaiG s n fl T E O C (s.size+1) e [pieceL s k e] true):PlaiZ s (k:Int) n fl T (E:Int) O C:=by
 unfold PlaiZ
 rw[hb,if_neg (by decide)]
 refine ⟨E,rfl,fun e' he'=>?_⟩
 rw[Int.toNat_natCast] at he' ⊢
 obtain rfl:=he.uniq he'
 exact H
end Go.Proofs.YtafhgbokdfhapaaGreatDoor
namespace Go.Proofs.YtafhgbokdfhapaaGreatDoor
open Go.RowKit
theorem Pre.size {s:ByteArray} {p:Nat} {l:List UInt8} (h:Pre s p l) (hp:p≤s.size):p+l.length≤s.size:=by
 have:=h.length_le
 rw[drop_len] at this
 omega
theorem Pre.app {s:ByteArray} {p:Nat}:∀ {a b:List UInt8},Pre s p (a++b)→Pre s p a∧Pre s (p+a.length) b
 | [],b,h=>⟨List.nil_prefix,by simpa using h⟩
 | x :: a,b,h=>by
  obtain ⟨h1,h2,h3⟩:=h.cons
  obtain ⟨h4,h5⟩:=Pre.app (a:=a) h3
  refine ⟨?_,by rw[List.length_cons,show p+(a.length+1)=p+1+a.length by omega];exact h5⟩
  have:x :: a <+: (x :: a)++b:=List.prefix_append _ _
  exact this.trans h
theorem Pre.piece {s:ByteArray} {p:Nat} {a b:List UInt8} (h:Pre s p (a++b)):pieceL s p (p+a.length)=a:=by
 unfold pieceL
 rw[Nat.add_sub_cancel_left]
 obtain ⟨t,ht⟩:=h
 rw[←ht,List.append_assoc,List.take_left]
def wsp (b:UInt8):Bool:=decide (b=32∨b=9)
theorem wsp_white (b:UInt8):U.white (b.toNat:Int)=wsp b:=by
 have:∀ n:Fin 256,U.white (((UInt8.ofNat n.val).toNat:Nat):Int)=wsp (UInt8.ofNat n.val):=by decide +kernel
 have h:=this ⟨b.toNat,UInt8.toNat_lt b⟩
 rwa [show UInt8.ofNat b.toNat=b from UInt8.ofNat_toNat] at h
theorem u8_eq {b:UInt8} {n:Nat} (hn:n<256):b.toNat=n↔b=UInt8.ofNat n:=by
 constructor
 ·intro h;rw[←h];exact (UInt8.ofNat_toNat (x:=b)).symm
 ·intro h;rw[h];simp;omega
theorem pre_white {s:ByteArray}:∀ {l:List UInt8} {p:Nat},Pre s p l→(∀ j,j<p+(l.takeWhile wsp).length→p≤j→U.white (byt s j:Int)=true)∧Pre s (p+(l.takeWhile wsp).length) (l.dropWhile wsp)
 | [],p,h=>⟨fun j h1 h2=>by simp at h1;omega,h⟩
 | x :: l,p,h=>by
  obtain ⟨h1,h2,h3⟩:=h.cons
  rw[List.takeWhile_cons,List.dropWhile_cons]
  cases hx:wsp x with
  | true=>
   rw[if_pos rfl,if_pos rfl]
   obtain ⟨k1,k2⟩:=pre_white h3
   refine ⟨fun j j1 j2=>?_,by rw[List.length_cons,show p+((l.takeWhile wsp).length+1)=p+1+(l.takeWhile wsp).length by omega];exact k2⟩
   by_cases e:j=p
   ·rw[e,h2,wsp_white,hx]
   ·rw[List.length_cons] at j1
    exact k1 j (by omega) (by omega)
  | false=>
   rw[if_neg (by decide),if_neg (by decide)]
   exact ⟨fun j j1 j2=>by simp at j1;omega,h⟩
theorem pre_blank {s:ByteArray}:∀ {l:List UInt8} {p:Nat},Pre s p l→(∀ j,j<(l.takeWhile (·=32)).length→byt s (p+j)=32)∧(∀ x t,l.dropWhile (·=32)=x :: t→byt s (p+(l.takeWhile (·=32)).length)≠32)
 | [],p,h=>⟨fun j h1=>by simp at h1,fun x t e=>by cases e⟩
 | x :: l,p,h=>by
  obtain ⟨h1,h2,h3⟩:=h.cons
  rw[List.takeWhile_cons,List.dropWhile_cons]
  by_cases hx:x=32
  ·rw[if_pos (by simpa using hx),if_pos (by simpa using hx)]
   obtain ⟨k1,k2⟩:=pre_blank h3
   refine ⟨fun j j1=>?_,fun y t e=>?_⟩
   ·cases j with
    | zero=>rw[Nat.add_zero,h2,hx];rfl
    | succ j=>
     rw[show p+(j+1)=p+1+j by omega]
     exact k1 j (by simpa using j1)
   ·rw[List.length_cons,show p+((l.takeWhile (·=32)).length+1)=p+1+(l.takeWhile (·=32)).length by omega]
    exact k2 y t e
  ·rw[if_neg (by simpa using hx),if_neg (by simpa using hx)]
   exact ⟨fun j j1=>by simp at j1,fun y t e=>by
    rw[List.length_nil,Nat.add_zero,h2]
    intro hc
    exact hx ((u8_eq (by decide)).1 hc)⟩
theorem pre_row {s:ByteArray}:∀ {l:List UInt8} {p:Nat},Pre s p l→(∀ j,j<p+(l.takeWhile (·≠10)).length→p≤j→byt s j≠10)∧Pre s (p+(l.takeWhile (·≠10)).length) (l.dropWhile (·≠10))∧Pre s p (l.takeWhile (·≠10)++l.dropWhile (·≠10))
 | [],p,h=>⟨fun j h1 h2=>by simp at h1;omega,h,h⟩
 | x :: l,p,h=>by
  obtain ⟨h1,h2,h3⟩:=h.cons
  refine ⟨?_,?_,by rw[List.takeWhile_append_dropWhile];exact h⟩
  ·rw[List.takeWhile_cons]
   by_cases hx:x=10
   ·rw[if_neg (by simpa using hx)]
    exact fun j j1 j2=>by simp at j1;omega
   ·rw[if_pos (by simpa using hx)]
    obtain ⟨k1,_,_⟩:=pre_row h3
    intro j j1 j2
    rw[List.length_cons] at j1
    by_cases e:j=p
    ·rw[e,h2];intro hc;exact hx ((u8_eq (by decide)).1 hc)
    ·exact k1 j (by omega) (by omega)
  ·rw[List.takeWhile_cons,List.dropWhile_cons]
   by_cases hx:x=10
   ·rw[if_neg (by simpa using hx),if_neg (by simpa using hx)]
    exact h
   ·rw[if_pos (by simpa using hx),if_pos (by simpa using hx)]
    obtain ⟨_,k2,_⟩:=pre_row h3
    rw[List.length_cons,show p+((l.takeWhile (·≠10)).length+1)=p+1+(l.takeWhile (·≠10)).length by omega]
    exact k2
theorem tw_mem {p:UInt8→Bool}:∀ {l:List UInt8} {x:UInt8},x∈l.takeWhile p→p x=true
 | [],x,h=>by simp at h
 | y :: l,x,h=>by
  rw[List.takeWhile_cons] at h
  split at h
  ·rename_i hy
   rcases List.mem_cons.1 h with rfl|h
   ·exact hy
   ·exact tw_mem h
  ·simp at h
theorem dw_head {p:UInt8→Bool}:∀ {l r:List UInt8} {x:UInt8},l.dropWhile p=x :: r→p x=false
 | [],r,x,h=>by simp at h
 | y :: l,r,x,h=>by
  rw[List.dropWhile_cons] at h
  split at h
  ·exact dw_head h
  ·rename_i hy
   injection h with h1 h2
   rw[←h1]
   simpa using hy
def rtr (c:List UInt8):List UInt8:=(c.reverse.dropWhile wsp).reverse
theorem rtr_spec (c:List UInt8):∃ w,c=rtr c++w∧(∀ x∈w,wsp x=true)∧(rtr c=[]∨∃ y t,rtr c=t++[y]∧wsp y=false):=by
 refine ⟨(c.reverse.takeWhile wsp).reverse,?_,fun x hx=>?_,?_⟩
 ·unfold rtr
  rw[←List.reverse_append,List.takeWhile_append_dropWhile,List.reverse_reverse]
 ·rw[List.mem_reverse] at hx
  exact tw_mem hx
 ·unfold rtr
  cases hd:c.reverse.dropWhile wsp with
  | nil=>exact .inl rfl
  | cons y t=>
   refine .inr ⟨y,t.reverse,by rw[List.reverse_cons],?_⟩
   exact dw_head hd
theorem nt_of {s:ByteArray} {p:Nat} {pv:Bool} (hpv:pv=true↔(p=0∨U.white (byt s (p-1):Int)=true∨byt s (p-1)=10)):ntB s p=(decide (byt s p=35)&&pv):=by
 unfold ntB
 cases pv with
 | true=>rw[Bool.and_true];exact decide_eq_decide.2 ⟨fun h=>h.1,fun h=>⟨h,hpv.1 rfl⟩⟩
 | false=>rw[Bool.and_false,decide_eq_false_iff_not];intro h;exact absurd (hpv.2 h.2) (by decide)
theorem mk3_not {s:ByteArray} {a b ch:Nat} (h:byt s a≠ch):mk3 s a b ch=false:=by
 unfold mk3
 rw[decide_eq_false_iff_not]
 exact fun e=>h e.2.1
end Go.Proofs.YtafhgbokdfhapaaGreatDoor
namespace Go.Proofs.YtafhgbokdfhapaaGreatDoor
open Go.RowKit
def wS (fin:Bool):Nat→List UInt8→Bool→Bool→Bool→List (List UInt8)→Bool→Option (List (List UInt8) × Bool × Nat)
 | 0,_,_,_,_,_,_=>none
 | g+1,l,m,pv,f,o,b=>
  if m=true then
   match l.dropWhile wsp with
   | []=>if fin=true then (if l=[] then some (o,b,0) else wS fin g l false true f o b) else none
   | x :: r=>
    if x=10∨x=35 then wS fin g l false true f o b
    else if (∀ y∈l.takeWhile wsp,y=32)∧(l.dropWhile wsp≠l∨(x≠45∧x≠46)∨(r≠[]∧r.head?≠some x)) then wS fin g l false true f o b else none
  else match l with
   | []=>if fin=true then some (o,b,0) else none
   | x :: l'=>
    if wsp x=true then (wS fin g l' false true f o b).map fun r=>(r.1,r.2.1,r.2.2+1)
    else if x=10 then (wS fin g l' true true false o b).map fun r=>(r.1,r.2.1,r.2.2+1)
    else if x=35∧pv=true then
     match l'.dropWhile (·≠10) with
     | []=>if fin=true then some (o++[rtr (l'.takeWhile (·≠10))],(if o=[] then f else b),1+(l'.takeWhile (·≠10)).length) else none
     | y :: r=>(wS fin g (y :: r) false false f (o++[rtr (l'.takeWhile (·≠10))]) (if o=[] then f else b)).map fun r=>(r.1,r.2.1,r.2.2+(1+(l'.takeWhile (·≠10)).length))
    else some (o,b,0)
theorem mk3_not2 {s:ByteArray} {a b ch:Nat} (h:byt s (a+1)≠ch):mk3 s a b ch=false:=by
 unfold mk3
 rw[decide_eq_false_iff_not]
 exact fun e=>h e.2.2.1
theorem dw_nil {l:List UInt8} (h:l.dropWhile wsp=[]):∀ x∈l,wsp x=true:=by
 intro x hx
 have:=List.takeWhile_append_dropWhile (p:=wsp) (l:=l)
 rw[h,List.append_nil] at this
 rw[←this] at hx
 exact tw_mem hx
theorem wS_sound {s:ByteArray} {fin:Bool} {a:Nat} {sm:Bool} {ts:List (List UInt8)} {S:Bool}:∀ (g:Nat) (l:List UInt8) (p k:Nat) (m pv f:Bool) (o:List (List UInt8 × Nat)) (b:Bool),Pre s p l→(fin=true→s.size=p+l.length)→(m=false→(pv=true↔(p=0∨U.white (byt s (p-1):Int)=true∨byt s (p-1)=10))∨byt s p=10)→(m=true→p=0∨byt s (p-1)=10) →
  wS fin g l m pv (sm&&f) (o.map (·.1)) b=some (ts,S,k)→∃ L,L.map (·.1)=ts∧NZ s false 0 a sm L S (p+k) 0 p m f o b:=by
 intro g
 induction g with
 | zero=>intro l p k m pv f o b _ _ _ _ h;cases h
 | succ g ih=>
  intro l p k m pv f o b hl hf hpv hm h
  unfold wS at h
  cases m with
  | true=>
   rw[if_pos rfl] at h
   have hm2:=hm rfl
   obtain ⟨w1,w2⟩:=pre_white hl
   have hnext:∀ w,w=wS fin g l false true (sm&&f) (o.map (·.1)) b→w=some (ts,S,k)→∃ L,L.map (·.1)=ts∧NZ s false 0 a sm L S (p+k) 0 p false f o b:=fun w e1 e2=>
    ih l p k false true f o b hl hf (fun _=>.inl ⟨fun _=>hm2.elim .inl (fun e=>.inr (.inr e)),fun _=>rfl⟩) (fun e=>by cases e) (by rw[←e1,e2])
   cases hd:l.dropWhile wsp with
   | nil=>
    rw[hd] at h
    dsimp only at h
    split at h
    ·rename_i hfin
     have hsz:=hf hfin
     split at h
     ·rename_i hl0
      injection h with h;injection h with h1 h;injection h with h2 h3
      subst h1 h2 hl0
      have h3':0=k:=h3
      simp at hsz
      exact ⟨o,rfl,.over (by omega) rfl rfl (by omega) rfl⟩
     ·rename_i hl0
      obtain ⟨L,hL,hN⟩:=hnext _ rfl h
      have hall:=dw_nil hd
      have hlen:0<l.length:=by cases l with
       | nil=>exact absurd rfl hl0
       | cons x l=>exact Nat.succ_pos _
      have htw:(l.takeWhile wsp).length=l.length:=by
       have:=List.takeWhile_append_dropWhile (p:=wsp) (l:=l)
       rw[hd,List.append_nil] at this
       rw[this]
      rw[htw] at w1
      have hE:RowE s p s.size:=⟨by omega,Nat.le_refl _,(fun j j1 j2 e=>by
       have:=w1 j (by omega) j2
       rw[e] at this
       cases this),.inl rfl⟩
      have hF:FirN s p s.size s.size:=⟨by omega,Nat.le_refl _,fun j j1 j2=>w1 j (by omega) j2,.inl rfl⟩
      obtain ⟨i,hi⟩:=InN.ex s p s.size hE.1
      have hb0:byt s p≠45∧byt s p≠46:=by
       have:=w1 p (by omega) (Nat.le_refl _)
       constructor <;> intro e <;> rw[e] at this <;> revert this <;> decide
      have hk:kindN s p s.size s.size=1:=by
       unfold kindN
       rw[mk3_not hb0.1,mk3_not hb0.2,if_neg (by decide),if_neg (by decide),if_pos rfl]
      exact ⟨L,hL,.met (by omega) hE hF hi (by omega) (by omega) (fun e=>by omega) (fun e=>by omega) hN⟩
    ·cases h
   | cons x r=>
    rw[hd] at h w2
    dsimp only at h
    obtain ⟨x1,x2,x3⟩:=w2.cons
    have hxw:wsp x=false:=dw_head hd
    have hps:p<s.size:=by omega
    obtain ⟨t,ht⟩:=RowE.ex s p (by omega)
    have hq:∀ j,j<p+(l.takeWhile wsp).length→p≤j→byt s j≠10:=fun j j1 j2 e=>by
     have:=w1 j j1 j2
     rw[e] at this
     cases this
    have hqt:p+(l.takeWhile wsp).length≤t:=by
     refine Decidable.byContradiction fun hc=>?_
     rcases ht.2.2.2 with e|e
     ·omega
     ·exact hq t (by omega) ht.1 e
    have hF:FirN s p t (p+(l.takeWhile wsp).length):=⟨by omega,hqt,w1,.inr (by rw[x2,wsp_white];exact hxw)⟩
    obtain ⟨i,hi⟩:=InN.ex s p t ht.1
    by_cases hx:x=10∨x=35
    ·rw[if_pos hx] at h
     obtain ⟨L,hL,hN⟩:=hnext _ rfl h
     have hk:kindN s p t (p+(l.takeWhile wsp).length)=1∨kindN s p t (p+(l.takeWhile wsp).length)=2:=by
      have hb0:byt s p≠45∧byt s p≠46:=by
       by_cases hz:(l.takeWhile wsp).length=0
       ·rw[hz,Nat.add_zero] at x2
        rw[x2]
        rcases hx with rfl|rfl <;> decide
       ·have:=w1 p (by omega) (Nat.le_refl _)
        constructor <;> intro e <;> rw[e] at this <;> revert this <;> decide
      unfold kindN
      rw[mk3_not hb0.1,mk3_not hb0.2,if_neg (by decide),if_neg (by decide)]
      rcases hx with rfl|rfl
      ·left
       rw[if_pos]
       refine Decidable.byContradiction fun hc=>?_
       exact ht.2.2.1 _ (show p+(l.takeWhile wsp).length<t by omega) (by omega) x2
      ·by_cases e:p+(l.takeWhile wsp).length=t
       ·exact .inl (if_pos e)
       ·right;rw[if_neg e,if_pos (show byt s _=35 from x2)]
     exact ⟨L,hL,.met hps ht hF hi (by omega) (by omega) (fun e=>by omega) (fun e=>by omega) hN⟩
    ·rw[if_neg hx] at h
     split at h
     ·rename_i hc
      obtain ⟨hc1,hc2⟩:=hc
      obtain ⟨L,hL,hN⟩:=hnext _ rfl h
      have hb0:(byt s p≠45∧byt s p≠46)∨(mk3 s p t 45=false∧mk3 s p t 46=false):=by
       by_cases hz:(l.takeWhile wsp).length=0
       ·have hl0:l.takeWhile wsp=[]:=List.eq_nil_of_length_eq_zero hz
        have hdl:l.dropWhile wsp=l:=by
         have:=List.takeWhile_append_dropWhile (p:=wsp) (l:=l)
         rw[hl0] at this
         simpa using this
        rw[hz,Nat.add_zero] at x2 x3
        rcases hc2 with hc2|hc2|hc2
        ·exact absurd (hd.symm.trans hdl) hc2
        ·left
         rw[x2]
         exact ⟨fun e=>hc2.1 ((u8_eq (by decide)).1 e),fun e=>hc2.2 ((u8_eq (by decide)).1 e)⟩
        ·right
         obtain ⟨hr0,hr1⟩:=hc2
         cases r with
         | nil=>exact absurd rfl hr0
         | cons y r=>
          obtain ⟨_,y2,_⟩:=x3.cons
          have hyx:y≠x:=fun e=>hr1 (by rw[e];rfl)
          have key:∀ c:Nat,c<256→mk3 s p t c=false:=fun c hc=>by
           by_cases h1:byt s p=c
           ·refine mk3_not2 ?_
            intro h2
            rw[y2] at h2
            rw[x2] at h1
            exact hyx (UInt8.toNat_inj.1 (h2.trans h1.symm))
           ·exact mk3_not h1
          exact ⟨key 45 (by decide),key 46 (by decide)⟩
       ·left
        have:=w1 p (by omega) (Nat.le_refl _)
        constructor <;> intro e <;> rw[e] at this <;> revert this <;> decide
      have hk34:kindN s p t (p+(l.takeWhile wsp).length)≠3∧kindN s p t (p+(l.takeWhile wsp).length)≠4:=by
       have h2:mk3 s p t 45=false∧mk3 s p t 46=false:=hb0.elim (fun h=>⟨mk3_not h.1,mk3_not h.2⟩) id
       unfold kindN
       rw[h2.1,h2.2,if_neg (by decide),if_neg (by decide)]
       split
       ·decide
       ·split <;> decide
      have hnt:NoTab s p (p+(l.takeWhile wsp).length):=fun j j1 j2=>by
       have hbj:=(show Pre s p (l.takeWhile wsp++l.dropWhile wsp) by rw[List.takeWhile_append_dropWhile];exact hl).app.1.byte (j-p) (by omega)
       rw[show p+(j-p)=j by omega] at hbj
       rw[hbj]
       have hin:(l.takeWhile wsp).getD (j-p) 0=32:=by
        refine hc1 _ ?_
        simp only[List.getD]
        rw[List.getElem?_eq_getElem (by omega),Option.getD_some]
        exact List.getElem_mem _
       rw[hin]
       decide
      exact ⟨L,hL,.met hps ht hF hi hk34.1 hk34.2 (fun _ _=>hnt) (fun _ e=>by cases e) hN⟩
     ·cases h
  | false=>
   rw[if_neg (by decide)] at h
   cases l with
   | nil=>
    dsimp only at h
    split at h
    ·rename_i hfin
     injection h with h;injection h with h1 h;injection h with h2 h3
     subst h1 h2
     have h3':0=k:=h3
     have hsz:=hf hfin
     simp at hsz
     exact ⟨o,rfl,.over (by omega) rfl rfl (by omega) rfl⟩
    ·cases h
   | cons x l'=>
    obtain ⟨x1,x2,x3⟩:=hl.cons
    have hf':fin=true→s.size=p+1+l'.length:=fun e=>by have:=hf e;simp at this;omega
    dsimp only at h
    split at h
    ·rename_i hw
     cases hr:wS fin g l' false true (sm&&f) (o.map (·.1)) b with
     | none=>rw[hr] at h;cases h
     | some r=>
      obtain ⟨ts',S',k'⟩:=r
      rw[hr] at h
      injection h with h;injection h with h1 h;injection h with h2 h3
      subst h1 h2
      have hwx:U.white (byt s p:Int)=true:=by rw[x2,wsp_white];exact hw
      obtain ⟨L,hL,hN⟩:=ih l' (p+1) k' false true f o b x3 hf' (fun _=>.inl ⟨fun _=>.inr (.inl hwx),fun _=>rfl⟩) (fun e=>by cases e) hr
      have h3':k'+1=k:=h3
      exact ⟨L,hL,.white x1 hwx (by rw[show p+k=p+1+k' by omega];exact hN)⟩
    ·rename_i hw
     have hwx:U.white (byt s p:Int)=false:=by rw[x2,wsp_white];simpa using hw
     split at h
     ·rename_i h10
      cases hr:wS fin g l' true true false (o.map (·.1)) b with
      | none=>rw[hr] at h;cases h
      | some r=>
       obtain ⟨ts',S',k'⟩:=r
       rw[hr] at h
       injection h with h;injection h with h1 h;injection h with h2 h3
       subst h1 h2
       have hb10:byt s p=10:=by rw[x2,h10];rfl
       obtain ⟨L,hL,hN⟩:=ih l' (p+1) k' true true false o b x3 hf' (fun e=>by cases e) (fun _=>.inr hb10) (by rw[Bool.and_false];exact hr)
       have h3':k'+1=k:=h3
       exact ⟨L,hL,.lf x1 hb10 (by rw[show p+k=p+1+k' by omega];exact hN)⟩
     ·rename_i h10
      have hb10:byt s p≠10:=fun e=>h10 ((u8_eq (by decide)).1 (x2.symm.trans e))
      have hpv2:=(hpv rfl).resolve_right hb10
      have hnt:=nt_of hpv2
      split at h
      ·rename_i h35
       obtain ⟨h35,hpt⟩:=h35
       have hb35:byt s p=35:=by rw[x2,h35];rfl
       rw[hpt,hb35] at hnt
       obtain ⟨r1,r2,r3⟩:=pre_row x3
       obtain ⟨w,e1,e2,e3⟩:=rtr_spec (l'.takeWhile (·≠10))
       cases hd:l'.dropWhile (·≠10) with
       | nil=>
        rw[hd] at h r2
        dsimp only at h
        obtain ⟨c,hc⟩:∃ c,l'.takeWhile (·≠10)=c:=⟨_,rfl⟩
        rw[hc] at h r1 r2 r3 e1 e3
        split at h
        ·rename_i hfin
         have hsz:=hf' hfin
         have hlc:l'=c:=by
          have hh:=List.takeWhile_append_dropWhile (p:=(·≠10)) (l:=l')
          rw[hc,hd,List.append_nil] at hh
          exact hh.symm
         rw[hlc] at hsz
         injection h with h;injection h with h1 h;injection h with h2 h3
         have h3':1+c.length=k:=h3
         have hE:RowE s p (p+1+c.length):=⟨by omega,by omega,fun j j1 j2=>by
          by_cases e:j=p
          ·rw[e];exact hb10
          ·exact r1 j j1 (by omega),.inl (by omega)⟩
         have hwl:c.length=(rtr c).length+w.length:=by rw[←List.length_append,←e1]
         have hpc:Pre s (p+1) (rtr c++(w++l'.dropWhile (·≠10))):=by rw[←List.append_assoc,←e1];exact r3
         have hB:BakN s (p+1) (p+1+c.length) (p+1+(rtr c).length):=⟨by omega,by omega,fun j j1 j2=>by
          have hb:=hpc.app.2.app.1.byte (j-(p+1+(rtr c).length)) (by omega)
          rw[show p+1+(rtr c).length+(j-(p+1+(rtr c).length))=j by omega] at hb
          rw[hb,wsp_white]
          refine e2 _ ?_
          simp only[List.getD]
          rw[List.getElem?_eq_getElem (by omega),Option.getD_some]
          exact List.getElem_mem _,by
          rcases e3 with e3|⟨y',t',e3,e4⟩
          ·left;rw[e3];rfl
          ·right
           have hb:=hpc.app.1.byte t'.length (by rw[e3];simp)
           rw[e3] at hb ⊢
           rw[List.length_append,show p+1+(t'.length+[y'].length)-1=p+1+t'.length by show p+1+(t'.length+1)-1=_;omega,hb]
           have:(t'++[y']).getD t'.length 0=y':=by simp[List.getD]
           rw[this,wsp_white]
           exact e4⟩
         obtain ⟨k0,d,hA⟩:=Abv.ex s p
         refine ⟨o++[(rtr c,d)],by rw[List.map_append,←h1];rfl,.com x1 hnt hE hB hA ?_⟩
         rw[hpc.piece]
         refine .over (by omega) rfl ?_ (by omega) rfl
         rw[←h2]
         cases o <;> rfl
        ·cases h
       | cons y r=>
        rw[hd] at h r2
        dsimp only at h
        obtain ⟨c,hc⟩:∃ c,l'.takeWhile (·≠10)=c:=⟨_,rfl⟩
        rw[hc] at h r1 r2 r3 e1 e3
        have hy:y=10:=by
         have:=dw_head hd
         simpa using this
        obtain ⟨y1,y2,_⟩:=r2.cons
        have hyt:byt s (p+1+c.length)=10:=by rw[y2,hy];rfl
        have hE:RowE s p (p+1+c.length):=⟨by omega,by omega,fun j j1 j2=>by
         by_cases e:j=p
         ·rw[e];exact hb10
         ·exact r1 j j1 (by omega),.inr hyt⟩
        have hwl:c.length=(rtr c).length+w.length:=by rw[←List.length_append,←e1]
        have hpc:Pre s (p+1) (rtr c++(w++l'.dropWhile (·≠10))):=by rw[←List.append_assoc,←e1];exact r3
        have hB:BakN s (p+1) (p+1+c.length) (p+1+(rtr c).length):=⟨by omega,by omega,fun j j1 j2=>by
         have hb:=hpc.app.2.app.1.byte (j-(p+1+(rtr c).length)) (by omega)
         rw[show p+1+(rtr c).length+(j-(p+1+(rtr c).length))=j by omega] at hb
         rw[hb,wsp_white]
         refine e2 _ ?_
         simp only[List.getD]
         rw[List.getElem?_eq_getElem (by omega),Option.getD_some]
         exact List.getElem_mem _,by
         rcases e3 with e3|⟨y',t',e3,e4⟩
         ·left;rw[e3];rfl
         ·right
          have hb:=hpc.app.1.byte t'.length (by rw[e3];simp)
          rw[e3] at hb ⊢
          rw[List.length_append,show p+1+(t'.length+[y'].length)-1=p+1+t'.length by show p+1+(t'.length+1)-1=_;omega,hb]
          have:(t'++[y']).getD t'.length 0=y':=by simp[List.getD]
          rw[this,wsp_white]
          exact e4⟩
        obtain ⟨k0,d,hA⟩:=Abv.ex s p
        cases hr:wS fin g (y :: r) false false (sm&&f) (o.map (·.1)++[rtr c]) (if o.map (·.1)=[] then (sm&&f) else b) with
        | none=>rw[hr] at h;cases h
        | some z=>
         obtain ⟨ts',S',k'⟩:=z
         rw[hr] at h
         injection h with h;injection h with h1 h;injection h with h2 h3
         subst h1 h2
         have h3':k'+(1+c.length)=k:=h3
         obtain ⟨L,hL,hN⟩:=ih (y :: r) (p+1+c.length) k' false false f (o++[(rtr c,d)]) (if o=[] then (sm&&f) else b) r2 (fun e=>by have:=hf' e;have hh:=List.takeWhile_append_dropWhile (p:=(·≠10)) (l:=l');rw[hc,hd] at hh;rw[←hh,List.length_append] at this;omega) (fun _=>.inr hyt) (fun e=>by cases e) (by
          rw[List.map_append,←hr]
          cases o <;> rfl)
         refine ⟨L,hL,.com x1 hnt hE hB hA ?_⟩
         rw[hpc.piece,show p+k=p+1+c.length+k' by omega]
         exact hN
      ·rename_i h35
       injection h with h;injection h with h1 h;injection h with h2 h3
       subst h1 h2
       have h3':0=k:=h3
       have hnt2:ntB s p=false:=by
        rw[hnt,Bool.and_eq_false_iff]
        by_cases hp35:byt s p=35
        ·right
         cases pv with
         | false=>rfl
         | true=>exact absurd ⟨(u8_eq (by decide)).1 (x2.symm.trans hp35),rfl⟩ h35
        ·left;exact decide_eq_false hp35
       exact ⟨o,rfl,.stop x1 hwx hb10 hnt2 rfl rfl (by omega) rfl⟩
theorem pass_of {s:ByteArray} {fin:Bool} {p:Nat} {l:List UInt8} {pv:Bool} {ts:List (List UInt8)} {S:Bool} {k:Nat} (h0:0<p) (hl:Pre s p l) (hf:fin=true→s.size=p+l.length) (hb:byt s (p-1)≠10) (hw:U.white (byt s (p-1):Int)=pv) (h:wS fin (2*l.length+2) l false pv true [] false=some (ts,S,k)) (hp:p≤s.size):∃ L:Coms,L.map (·.1)=ts∧passR s p (.ok (L,S,p+k)):=by
 obtain ⟨L,hL,hN⟩:=wS_sound (s:=s) (a:=p) (sm:=true) _ l p k false pv true [] false hl hf (fun _=>.inl ⟨fun e=>.inr (.inl (hw.trans e)),fun e=>by
  rcases e with e|e|e
  ·omega
  ·exact hw.symm.trans e
  ·exact absurd e hb⟩) (fun e=>by cases e) h
 obtain ⟨r0,hr⟩:=RowB.ex s p
 have hne:p≠r0:=by
  intro e
  rcases hr.2.2 with h1|h1
  ·omega
  ·rw[←e] at h1;exact hb h1
 refine ⟨L,hL,L,S,((p+k:Nat):Int),0,⟨r0,p+k,by rw[clampN_nat hp];exact hr,rfl,?_⟩,?_⟩
 ·rw[clampN_nat hp,decide_eq_false hne]
  exact hN
 ·rw[if_pos rfl,Int.toNat_natCast]
theorem pass_row {s:ByteArray} {fin:Bool} {p:Nat} {l:List UInt8} {ts:List (List UInt8)} {S:Bool} {k:Nat} (h0:p=0∨byt s (p-1)=10) (hl:Pre s p l) (hf:fin=true→s.size=p+l.length) (h:wS fin (2*l.length+2) l true true false [] false=some (ts,S,k)) (hp:p≤s.size):∃ L:Coms,L.map (·.1)=ts∧passR s p (.ok (L,S,p+k)):=by
 obtain ⟨L,hL,hN⟩:=wS_sound (s:=s) (a:=p) (sm:=false) _ l p k true true true [] false hl hf (fun e=>by cases e) (fun _=>h0) h
 have hr:RowB s p p:=⟨Nat.le_refl _,fun j j1 j2=>by omega,h0⟩
 refine ⟨L,hL,L,S,((p+k:Nat):Int),0,⟨p,p+k,by rw[clampN_nat hp];exact hr,rfl,?_⟩,?_⟩
 ·rw[clampN_nat hp,decide_eq_true rfl]
  exact hN
 ·rw[if_pos rfl,Int.toNat_natCast]
end Go.Proofs.YtafhgbokdfhapaaGreatDoor
namespace Go.Proofs.YtafhgbokdfhapaaGreatDoor
open Go.RowKit
theorem end_nat (b:UInt8):U.endc (b.toNat:Int)=decide (b=32∨b=9∨b=10):=by
 have:∀ n:Fin 256,U.endc (((UInt8.ofNat n.val).toNat:Nat):Int)=decide (UInt8.ofNat n.val=32∨UInt8.ofNat n.val=9∨UInt8.ofNat n.val=10):=by decide +kernel
 have h:=this ⟨b.toNat,UInt8.toNat_lt b⟩
 rwa [show UInt8.ofNat b.toNat=b from UInt8.ofNat_toNat] at h
end Go.Proofs.YtafhgbokdfhapaaGreatDoor
