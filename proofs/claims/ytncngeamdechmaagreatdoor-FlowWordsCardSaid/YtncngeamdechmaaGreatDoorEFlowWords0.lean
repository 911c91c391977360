/- Parts of the proof of FlowWords, put together from smaller texts (blanks that Lean does not want are struck). Conditions: those that each theorem writes out. -/
import Derived.BigQuiet
import Derived.Deep.QuietTactic
import Derived.Laws.AppendOwnNone
import Derived.Laws.Cover4
import Derived.Lib.CountLaws
import Derived.Lib.Hide
import Derived.Lib.MapLaws
import Derived.Lib.Replace
import Derived.Shelf.LaysC
import Derived.Shelf.LaysM
import Derived.Shelf.Small.Strs
import Derived.Shelf.Small.Utf8
import Derived.Shelf.Strconv.Clone
import Derived.Shelf.Strconv.SyntaxError
import Derived.Shelf.Strconv.ToError
import Derived.Shelf.Strings.AsciiSet
import Derived.Shelf.Strings.Builder1
import Derived.Shelf.Strings.BuilderF
import Derived.Shelf.Strings.BuilderK
import Derived.Shelf.Strings.BuilderRune
import Derived.Shelf.Strings.LastIndex
import Derived.Shelf.Strings.Prefix
import Derived.Shelf.Strings.Runes
import Derived.Shelf.Strings.Search1
import Derived.Shelf.Strings.Search2
import Derived.Shelf.Strings.Search3
import Derived.Shelf.Strings.Shaped
import Derived.Shelf.Strings.Trim
import Derived.Shelf.Unicode.DecodeSlow
import Derived.WalkKit
import Derived.WalkLawsBesides
import Derived.WalkSpells
import Derived.Test.YtncngeamdechmaaGreatDoorProg
import Derived.Test.YtncngeamdechmaaGreatDoorZ00
import Derived.Test.YtncngeamdechmaaGreatDoorZ01
import Derived.Test.YtncngeamdechmaaGreatDoorZ02
import Derived.Test.YtncngeamdechmaaGreatDoorZ03
import Derived.Test.YtncngeamdechmaaGreatDoorZ05
import Derived.Test.YtncngeamdechmaaGreatDoorZ08
import Derived.Test.YtncngeamdechmaaGreatDoorZ15
namespace Go.Proofs.YtncngeamdechmaaGreatDoor
open Go.RowKit
def IsInts (k:IntKind) (B:Nat) (w:World) (v:Value) (xs:List Int):Prop:=
 ∃ ao cap,v=.slice ao xs.length cap∧xs.length≤cap∧cap≤maxLen∧(ao=none→cap=0)∧(0<xs.length→∃ b o,ao=some ⟨b,o,none⟩∧b<B∧∀ j,j<xs.length→w.cell? ⟨b,o+j,none⟩=some (.int k (xs.getD j 0)))
theorem ints_in {k:IntKind} {w:World} {x:Addr} {len cap:Nat} {zs:List Int} (hl:len≤cap) (hm:cap≤maxLen) (hz:zs.length=cap) (hc:∀ i,i<zs.length→w.cell? (x.add i)=some (.int k (zs.getD i 0))) :
  IsInts k w.heap.size w (.slice (some x) len cap) (zs.take len):=by
 have hlen:(zs.take len).length=len:=by rw[List.length_take];omega
 refine ⟨some x,cap,by rw[hlen],by omega,hm,(fun h=>by cases h),fun hp=>?_⟩
 rw[hlen] at hp
 have h0:=hc 0 (by omega)
 obtain ⟨b,off,spot⟩:=x
 have hspot:spot=none:=by simpa [Addr.add] using World.cell?_spot h0
 subst hspot
 refine ⟨b,off,rfl,?_,fun j hj=>?_⟩
 ·have:=World.block_lt_of_cell? w _ h0
  simpa [Addr.add] using this
 ·rw[hlen] at hj
  have:=hc j (by omega)
  rw[Addr.add_lit] at this
  rw[this]
  simp[List.getD,hj]
end Go.Proofs.YtncngeamdechmaaGreatDoor
namespace Go.Proofs.YtncngeamdechmaaGreatDoor
open Go.RowKit
def lowZ (x n:Int):Int:=x % 18446744073709551616 % n
theorem lowZ_range (x n:Int) (h:1≤n):0≤lowZ x n∧lowZ x n<n:=
 ⟨Int.emod_nonneg _ (by omega),Int.emod_lt_of_pos _ (by omega)⟩
theorem low_eq (x n:Int) (h1:1≤n) (h2:n≤9223372036854775807):wrap64 ((IntKind.u64.wrap x).tmod n)=lowZ x n:=by
 have hu:IntKind.u64.wrap x=x % 18446744073709551616:=by simp[IntKind.wrap,IntKind.bits,IntKind.signed]
 have h0:0≤x % 18446744073709551616:=Int.emod_nonneg _ (by omega)
 have hr:=lowZ_range x n h1
 rw[hu,Int.tmod_eq_emod_of_nonneg h0]
 change wrap64 (lowZ x n)=lowZ x n
 unfold wrap64
 omega
set_option maxHeartbeats 400000 in
theorem Low_any (x n:Int) (w:World) (h1:1≤n) (h2:n≤9223372036854775807) :
  Calls Tryz.prog 13 #[.int .i64 x,.int .i64 n] w fun e w'=>e=.returned (.int .i64 (lowZ x n))∧w=w':=by
 have H:=Lib.hid (low_eq x n h1 h2)
 go_enter Tryz.func13,Tryz.ntmps13
 go_wp2
 go_ret
 exact ⟨by rw[←H.out];rfl,rfl⟩
theorem Low_is (y:Int) (x n:Int) (w:World) (h1:1≤n) (h2:n≤9223372036854775807) (hy:lowZ x n=y) :
  Calls Tryz.prog 13 #[.int .i64 x,.int .i64 n] w fun e w'=>e=.returned (.int .i64 y)∧w=w':=by
 subst hy;exact Low_any x n w h1 h2
end Go.Proofs.YtncngeamdechmaaGreatDoor
namespace Go.Proofs.YtncngeamdechmaaGreatDoor
open Go.RowKit
theorem StpN.uniq {s:ByteArray} {fl:Bool} {a p p':Nat} (h:StpN s fl a p) (h':StpN s fl a p'):p=p':=by
 obtain ⟨h1,h2,h3,h4⟩:=h
 obtain ⟨k1,k2,k3,k4⟩:=h'
 rcases Nat.lt_trichotomy p p' with h|h|h
 ·rcases h4 with h4|h4
  ·omega
  ·have:=k3 p (by omega) (by omega);rw[h4] at this;cases this
 ·exact h
 ·rcases k4 with k4|k4
  ·omega
  ·have:=h3 p' (by omega) (by omega);rw[k4] at this;cases this
theorem ParN.uniq {s:ByteArray} {fl:Bool} {a e e':Nat} (h:ParN s fl a e) (h':ParN s fl a e'):e=e':=by
 obtain ⟨p,hp,he⟩:=h
 obtain ⟨p',hp',he'⟩:=h'
 obtain rfl:=hp.uniq hp'
 exact he.uniq he'
theorem Blk.inv {s:ByteArray} {a b p k c:Nat} (h:Blk s a k c) (ha:a<s.size) (hb:RowE s a b) (hp:FirN s a b p) :
  (p≠b∧k=0∧c=a)∨(p=b∧∃ k',k=k'+1∧Blk s (b+1) k' c):=by
 cases h with
 | over h=>omega
 | text _ hb' hp' hn=>
  obtain rfl:=hb.uniq hb'
  obtain rfl:=hp.uniq hp'
  exact .inl ⟨hn,rfl,rfl⟩
 | more _ hb' hp' hr=>
  obtain rfl:=hb.uniq hb'
  obtain rfl:=hp.uniq hp'
  exact .inr ⟨rfl,_,rfl,hr⟩
theorem Blk.uniq {s:ByteArray} {a k c:Nat} (h:Blk s a k c):∀ {k' c'},Blk s a k' c'→k=k'∧c=c':=by
 induction h with
 | over h=>intro k' c' h';obtain ⟨rfl,rfl⟩:=h'.end h;exact ⟨rfl,rfl⟩
 | text ha hb hp hn=>
  intro k' c' h'
  rcases h'.inv ha hb hp with ⟨_,rfl,rfl⟩|⟨h,_⟩
  ·exact ⟨rfl,rfl⟩
  ·exact absurd h hn
 | more ha hb hp _ ih=>
  intro k' c' h'
  rcases h'.inv ha hb hp with ⟨h,_⟩|⟨_,m,rfl,hr⟩
  ·exact absurd rfl h
  ·obtain ⟨rfl,rfl⟩:=ih hr
   exact ⟨rfl,rfl⟩
end Go.Proofs.YtncngeamdechmaaGreatDoor
namespace Go.Proofs.YtncngeamdechmaaGreatDoor
open Go.RowKit
def mkB (l:List UInt8):ByteArray:=⟨l.toArray⟩
end Go.Proofs.YtncngeamdechmaaGreatDoor
namespace Go.Proofs.YtncngeamdechmaaGreatDoor
open Go.RowKit
def wordL:List (List UInt8):=[[97],[98,99],[100,45,101],[102,95,103],[104,49],[120,121,122],[195,169],[107,35,108],[109,58,110],[111,46,112]]
def word (n:Int):List UInt8:=wordL.getD (lowZ n 10).toNat []
theorem word_mem (n:Int):word n∈wordL:=by
 have hr:=lowZ_range n 10 (by omega)
 unfold word
 have hl:(lowZ n 10).toNat<wordL.length:=by show _<10;omega
 simp only[List.getD,List.getElem?_eq_getElem hl,Option.getD_some]
 exact List.getElem_mem _
set_option maxRecDepth 100000 in
set_option maxHeartbeats 400000 in
theorem WordOf_is (l:List UInt8) (n:Int) (w:World) (hl:word n=l) :
  Calls Tryz.prog 12 #[.int .i64 n] w fun e w'=>e=.returned (.string ⟨l.toArray⟩)∧Below w.heap.size w w':=by
 have hr:=lowZ_range n 10 (by omega)
 obtain ⟨k,hk⟩:∃ k:Nat,lowZ n 10=(k:Int):=⟨(lowZ n 10).toNat,by omega⟩
 rw[hk] at hr
 have hk10:k<10:=by omega
 have hlk:wordL.getD k []=l:=by rw[←hl];unfold word;rw[hk];rfl
 have hcell:(w.alloc (.cells #[.string ⟨#[97]⟩,.string ⟨#[98,99]⟩,.string ⟨#[100,45,101]⟩,.string ⟨#[102,95,103]⟩,.string ⟨#[104,49]⟩,.string ⟨#[120,121,122]⟩,.string ⟨#[195,169]⟩,.string ⟨#[107,35,108]⟩,.string ⟨#[109,58,110]⟩,.string ⟨#[111,46,112]⟩] 9)).cell? ⟨w.heap.size,k,none⟩=some (.string ⟨l.toArray⟩):=by
  rw[World.cell?_alloc_mark,←hlk]
  have H:∀ j:Fin 10,(#[Value.string ⟨#[97]⟩,.string ⟨#[98,99]⟩,.string ⟨#[100,45,101]⟩,.string ⟨#[102,95,103]⟩,.string ⟨#[104,49]⟩,.string ⟨#[120,121,122]⟩,.string ⟨#[195,169]⟩,.string ⟨#[107,35,108]⟩,.string ⟨#[109,58,110]⟩,.string ⟨#[111,46,112]⟩]:Array Value)[j.val]?=some (.string ⟨(wordL.getD j.val []).toArray⟩):=by
   intro j
   match j with
   | ⟨0,_⟩|⟨1,_⟩|⟨2,_⟩|⟨3,_⟩|⟨4,_⟩|⟨5,_⟩|⟨6,_⟩|⟨7,_⟩|⟨8,_⟩|⟨9,_⟩=>rfl
   | ⟨i+10,hi⟩=>exact absurd hi (by omega)
  exact H ⟨k,hk10⟩
 have HK:=Lib.hid hk
 clear hk hlk hl hr
 go_enter Tryz.func12,Tryz.ntmps12
 go_wp2_with (go_at_call 13;refine (Low_is (k:Int) _ _ _ (by omega) (by omega) HK.out).mono ?_;rintro e w' ⟨rfl,rfl⟩)
 go_ret
 exact ⟨rfl,(Below.refl _ _).alloc (Nat.le_refl _) _⟩
theorem IsInts.at {B:Nat} {w:World} {ao:Option Addr} {n cap:Nat} {xs:List Int} (h:IsInts .i64 B w (.slice ao n cap) xs) (hn:xs.length=n) (hp:0<n):∃ b o,ao=some ⟨b,o,none⟩∧b<B∧∀ j,j<n→w.cell? ⟨b,o+j,none⟩=some (.int .i64 (xs.getD j 0)):=by
 obtain ⟨ao',cap',e,h1,h2,h3,h4⟩:=h
 rw[hn] at e h4
 injection e with e1 e2 e3
 subst e1
 exact h4 hp
theorem IsInts.slice {k:IntKind} {B:Nat} {w:World} {v:Value} {xs:List Int} (h:IsInts k B w v xs):∃ ao cap,v=.slice ao xs.length cap∧xs.length≤cap∧cap≤maxLen:=by
 obtain ⟨ao,cap,rfl,h1,h2,_⟩:=h
 exact ⟨ao,cap,rfl,h1,h2⟩
end Go.Proofs.YtncngeamdechmaaGreatDoor
namespace Go.Proofs.YtncngeamdechmaaGreatDoor
open Go.RowKit
theorem mkB_size (m:List UInt8):(mkB m).size=m.length:=by simp[mkB,ByteArray.size]
theorem mkB_append (a b:List UInt8):mkB a++mkB b=mkB (a++b):=by unfold mkB;rw[ByteArray.mk_append_mk]
end Go.Proofs.YtncngeamdechmaaGreatDoor
namespace Go.Proofs.YtncngeamdechmaaGreatDoor
open Go.RowKit
theorem PlaiG.stop {s:ByteArray} {n:Int} {fl:Bool} {g e t f:Nat} {R:List (List UInt8)} {one:Bool} (ht:RowE s e t) (hf:FirN s e t f) (h:f<t∨s.size≤t) :
  PlaiG s n fl (U.flowT R) e one 0 (g+1) e R one:=by
 intro t' f' ht' hf'
 obtain rfl:=ht.uniq ht'
 obtain rfl:=hf.uniq hf'
 rw[if_pos h]
 exact ⟨rfl,rfl,rfl,rfl⟩
theorem PlaiG.less {s:ByteArray} {n:Int} {fl:Bool} {g e t k a b i p:Nat} {R:List (List UInt8)} {one:Bool} (ht:RowE s e t) (hf:FirN s e t t) (h1:t<s.size) (hk:Blk s (t+1) k a) (h2:a<s.size)
  (hb:RowE s a b) (hi:InN s a b i) (hp:FirN s a b p) (h:kindN s a b p≠5∨(i:Int)≤n) :
  PlaiG s n fl (U.flowT R) e one 0 (g+1) e R one:=by
 intro t' f' ht' hf'
 obtain rfl:=ht.uniq ht'
 obtain rfl:=hf.uniq hf'
 rw[if_neg (by omega)]
 intro k' a' hk'
 obtain ⟨rfl,rfl⟩:=hk.uniq hk'
 rw[if_neg (by omega)]
 intro b' i' p' hb' hi' hp'
 obtain rfl:=hb.uniq hb'
 obtain rfl:=hi.uniq hi'
 obtain rfl:=hp.uniq hp'
 rw[if_pos h]
 exact ⟨rfl,rfl,rfl,rfl⟩
theorem PlaiZ.of {s:ByteArray} {k e:Nat} {n:Int} {fl:Bool} {T:List UInt8} {E:Nat} {O:Bool} {C:Int} (hb:begB s (k:Int) fl=true) (he:ParN s fl k e) (H:PlaiG s n fl T E O C (s.size+1) e [pieceL s k e] true):PlaiZ s (k:Int) n fl T (E:Int) O C:=by
 unfold PlaiZ
 rw[hb,if_neg (by decide)]
 refine ⟨E,rfl,fun e' he'=>?_⟩
 rw[Int.toNat_natCast] at he' ⊢
 obtain rfl:=he.uniq he'
 exact H
end Go.Proofs.YtncngeamdechmaaGreatDoor
namespace Go.Proofs.YtncngeamdechmaaGreatDoor
open Go.RowKit
def Pre (s:ByteArray) (p:Nat) (l:List UInt8):Prop:=l <+: s.data.toList.drop p
theorem Pre.size {s:ByteArray} {p:Nat} {l:List UInt8} (h:Pre s p l) (hp:p≤s.size):p+l.length≤s.size:=by
 have:=h.length_le
 rw[drop_len] at this
 omega
theorem Pre.cons {s:ByteArray} {p:Nat} {x:UInt8} {l:List UInt8} (h:Pre s p (x :: l)):p<s.size∧byt s p=x.toNat∧Pre s (p+1) l:=by
 have hp:p<s.size:=by
  have:=h.length_le
  rw[drop_len,List.length_cons] at this
  omega
 obtain ⟨b,h1,h2⟩:=drop_byte s p hp
 unfold Pre at h ⊢
 rw[h1,List.cons_prefix_cons] at h
 obtain ⟨rfl,h⟩:=h
 exact ⟨hp,h2.symm,h⟩
theorem Pre.app {s:ByteArray} {p:Nat}:∀ {a b:List UInt8},Pre s p (a++b)→Pre s p a∧Pre s (p+a.length) b
 | [],b,h=>⟨List.nil_prefix,by simpa using h⟩
 | x :: a,b,h=>by
  obtain ⟨h1,h2,h3⟩:=h.cons
  obtain ⟨h4,h5⟩:=Pre.app (a:=a) h3
  refine ⟨?_,by rw[List.length_cons,show p+(a.length+1)=p+1+a.length by omega];exact h5⟩
  have:x :: a <+: (x :: a)++b:=List.prefix_append _ _
  exact this.trans h
theorem Pre.byte {s:ByteArray} {p:Nat} {l:List UInt8} (h:Pre s p l):∀ j,j<l.length→byt s (p+j)=(l.getD j 0).toNat:=by
 induction l generalizing p with
 | nil=>intro j hj;exact absurd hj (Nat.not_lt_zero _)
 | cons x l ih=>
  intro j hj
  obtain ⟨_,h2,h3⟩:=h.cons
  cases j with
  | zero=>exact h2
  | succ j=>
   rw[show p+(j+1)=p+1+j by omega]
   exact ih h3 j (by simpa using hj)
theorem Pre.piece {s:ByteArray} {p:Nat} {a b:List UInt8} (h:Pre s p (a++b)):pieceL s p (p+a.length)=a:=by
 unfold pieceL
 rw[Nat.add_sub_cancel_left]
 obtain ⟨t,ht⟩:=h
 rw[←ht,List.append_assoc,List.take_left]
theorem wsp_white (b:UInt8):U.white (b.toNat:Int)=wsp b:=by
 have:∀ n:Fin 256,U.white (((UInt8.ofNat n.val).toNat:Nat):Int)=wsp (UInt8.ofNat n.val):=by decide +kernel
 have h:=this ⟨b.toNat,UInt8.toNat_lt b⟩
 rwa [show UInt8.ofNat b.toNat=b from UInt8.ofNat_toNat] at h
theorem u8_eq {b:UInt8} {n:Nat} (hn:n<256):b.toNat=n↔b=UInt8.ofNat n:=by
 constructor
 ·intro h;rw[←h];exact (UInt8.ofNat_toNat (x:=b)).symm
 ·intro h;rw[h];simp;omega
theorem pre_white {s:ByteArray}:∀ {l:List UInt8} {p:Nat},Pre s p l→(∀ j,j<p+(l.takeWhile wsp).length→p≤j→U.white (byt s j:Int)=true)∧Pre s (p+(l.takeWhile wsp).length) (l.dropWhile wsp)
 | [],p,h=>⟨fun j h1 h2=>by simp at h1;omega,h⟩
 | x :: l,p,h=>by
  obtain ⟨h1,h2,h3⟩:=h.cons
  rw[List.takeWhile_cons,List.dropWhile_cons]
  cases hx:wsp x with
  | true=>
   rw[if_pos rfl,if_pos rfl]
   obtain ⟨k1,k2⟩:=pre_white h3
   refine ⟨fun j j1 j2=>?_,by rw[List.length_cons,show p+((l.takeWhile wsp).length+1)=p+1+(l.takeWhile wsp).length by omega];exact k2⟩
   by_cases e:j=p
   ·rw[e,h2,wsp_white,hx]
   ·rw[List.length_cons] at j1
    exact k1 j (by omega) (by omega)
  | false=>
   rw[if_neg (by decide),if_neg (by decide)]
   exact ⟨fun j j1 j2=>by simp at j1;omega,h⟩
theorem pre_blank {s:ByteArray}:∀ {l:List UInt8} {p:Nat},Pre s p l→(∀ j,j<(l.takeWhile (·=32)).length→byt s (p+j)=32)∧(∀ x t,l.dropWhile (·=32)=x :: t→byt s (p+(l.takeWhile (·=32)).length)≠32)
 | [],p,h=>⟨fun j h1=>by simp at h1,fun x t e=>by cases e⟩
 | x :: l,p,h=>by
  obtain ⟨h1,h2,h3⟩:=h.cons
  rw[List.takeWhile_cons,List.dropWhile_cons]
  by_cases hx:x=32
  ·rw[if_pos (by simpa using hx),if_pos (by simpa using hx)]
   obtain ⟨k1,k2⟩:=pre_blank h3
   refine ⟨fun j j1=>?_,fun y t e=>?_⟩
   ·cases j with
    | zero=>rw[Nat.add_zero,h2,hx];rfl
    | succ j=>
     rw[show p+(j+1)=p+1+j by omega]
     exact k1 j (by simpa using j1)
   ·rw[List.length_cons,show p+((l.takeWhile (·=32)).length+1)=p+1+(l.takeWhile (·=32)).length by omega]
    exact k2 y t e
  ·rw[if_neg (by simpa using hx),if_neg (by simpa using hx)]
   exact ⟨fun j j1=>by simp at j1,fun y t e=>by
    rw[List.length_nil,Nat.add_zero,h2]
    intro hc
    exact hx ((u8_eq (by decide)).1 hc)⟩
theorem pre_row {s:ByteArray}:∀ {l:List UInt8} {p:Nat},Pre s p l→(∀ j,j<p+(l.takeWhile (·≠10)).length→p≤j→byt s j≠10)∧Pre s (p+(l.takeWhile (·≠10)).length) (l.dropWhile (·≠10))∧Pre s p (l.takeWhile (·≠10)++l.dropWhile (·≠10))
 | [],p,h=>⟨fun j h1 h2=>by simp at h1;omega,h,h⟩
 | x :: l,p,h=>by
  obtain ⟨h1,h2,h3⟩:=h.cons
  refine ⟨?_,?_,by rw[List.takeWhile_append_dropWhile];exact h⟩
  ·rw[List.takeWhile_cons]
   by_cases hx:x=10
   ·rw[if_neg (by simpa using hx)]
    exact fun j j1 j2=>by simp at j1;omega
   ·rw[if_pos (by simpa using hx)]
    obtain ⟨k1,_,_⟩:=pre_row h3
    intro j j1 j2
    rw[List.length_cons] at j1
    by_cases e:j=p
    ·rw[e,h2];intro hc;exact hx ((u8_eq (by decide)).1 hc)
    ·exact k1 j (by omega) (by omega)
  ·rw[List.takeWhile_cons,List.dropWhile_cons]
   by_cases hx:x=10
   ·rw[if_neg (by simpa using hx),if_neg (by simpa using hx)]
    exact h
   ·rw[if_pos (by simpa using hx),if_pos (by simpa using hx)]
    obtain ⟨_,k2,_⟩:=pre_row h3
    rw[List.length_cons,show p+((l.takeWhile (·≠10)).length+1)=p+1+(l.takeWhile (·≠10)).length by omega]
    exact k2
theorem tw_mem {p:UInt8→Bool}:∀ {l:List UInt8} {x:UInt8},x∈l.takeWhile p→p x=true
 | [],x,h=>by simp at h
 | y :: l,x,h=>by
  rw[List.takeWhile_cons] at h
  split at h
  ·rename_i hy
   rcases List.mem_cons.1 h with rfl|h
   ·exact hy
   ·exact tw_mem h
  ·simp at h
theorem dw_head {p:UInt8→Bool}:∀ {l r:List UInt8} {x:UInt8},l.dropWhile p=x :: r→p x=false
 | [],r,x,h=>by simp at h
 | y :: l,r,x,h=>by
  rw[List.dropWhile_cons] at h
  split at h
  ·exact dw_head h
  ·rename_i hy
   injection h with h1 h2
   rw[←h1]
   simpa using hy
theorem rtr_spec (c:List UInt8):∃ w,c=rtr c++w∧(∀ x∈w,wsp x=true)∧(rtr c=[]∨∃ y t,rtr c=t++[y]∧wsp y=false):=by
 refine ⟨(c.reverse.takeWhile wsp).reverse,?_,fun x hx=>?_,?_⟩
 ·unfold rtr
  rw[←List.reverse_append,List.takeWhile_append_dropWhile,List.reverse_reverse]
 ·rw[List.mem_reverse] at hx
  exact tw_mem hx
 ·unfold rtr
  cases hd:c.reverse.dropWhile wsp with
  | nil=>exact .inl rfl
  | cons y t=>
   refine .inr ⟨y,t.reverse,by rw[List.reverse_cons],?_⟩
   exact dw_head hd
theorem nt_of {s:ByteArray} {p:Nat} {pv:Bool} (hpv:pv=true↔(p=0∨U.white (byt s (p-1):Int)=true∨byt s (p-1)=10)):ntB s p=(decide (byt s p=35)&&pv):=by
 unfold ntB
 cases pv with
 | true=>rw[Bool.and_true];exact decide_eq_decide.2 ⟨fun h=>h.1,fun h=>⟨h,hpv.1 rfl⟩⟩
 | false=>rw[Bool.and_false,decide_eq_false_iff_not];intro h;exact absurd (hpv.2 h.2) (by decide)
theorem mk3_not {s:ByteArray} {a b ch:Nat} (h:byt s a≠ch):mk3 s a b ch=false:=by
 unfold mk3
 rw[decide_eq_false_iff_not]
 exact fun e=>h e.2.1
theorem wN_sound {s:ByteArray} {n:Int} {a:Nat} {ts:List (List UInt8)} {S:Bool}:∀ (g:Nat) (l:List UInt8) (p k:Nat) (m pv f:Bool) (o:List (List UInt8 × Nat)) (b:Bool),Pre s p l→a≤p→(m=false→(pv=true↔(p=0∨U.white (byt s (p-1):Int)=true∨byt s (p-1)=10))∨byt s p=10)→(m=true→a<p∧byt s (p-1)=10) →
  wN n g l m pv f (o.map (·.1)) b=some (ts,S,k)→∃ L,L.map (·.1)=ts∧NZ s true n a true L S (p+k) 0 p m f o b:=by
 intro g
 induction g with
 | zero=>intro l p k m pv f o b _ _ _ _ h;cases h
 | succ g ih=>
  intro l p k m pv f o b hl ha hpv hm h
  unfold wN at h
  cases m with
  | true=>
   rw[if_pos rfl] at h
   obtain ⟨hm1,hm2⟩:=hm rfl
   obtain ⟨w1,w2⟩:=pre_white hl
   cases hd:l.dropWhile wsp with
   | nil=>rw[hd] at h;cases h
   | cons x r=>
    rw[hd] at h w2
    dsimp only at h
    obtain ⟨x1,x2,_⟩:=w2.cons
    have hxw:wsp x=false:=dw_head hd
    have hps:p<s.size:=by omega
    obtain ⟨t,ht⟩:=RowE.ex s p (by omega)
    have hq:∀ j,j<p+(l.takeWhile wsp).length→p≤j→byt s j≠10:=fun j j1 j2 e=>by
     have:=w1 j j1 j2
     rw[e] at this
     cases this
    have hqt:p+(l.takeWhile wsp).length≤t:=by
     refine Decidable.byContradiction fun hc=>?_
     rcases ht.2.2.2 with e|e
     ·omega
     ·exact hq t (by omega) ht.1 e
    have hF:FirN s p t (p+(l.takeWhile wsp).length):=⟨by omega,hqt,w1,.inr (by rw[x2,wsp_white];exact hxw)⟩
    obtain ⟨i,hi⟩:=InN.ex s p t ht.1
    have hnext:∀ w,w=wN n g l false true f (o.map (·.1)) b→w=some (ts,S,k)→∃ L,L.map (·.1)=ts∧NZ s true n a true L S (p+k) 0 p false f o b:=fun w e1 e2=>
     ih l p k false true f o b hl ha (fun _=>.inl ⟨fun _=>.inr (.inr hm2),fun _=>rfl⟩) (fun e=>by cases e) (by rw[←e1,e2])
    by_cases hx:x=10∨x=35
    ·rw[if_pos hx] at h
     obtain ⟨L,hL,hN⟩:=hnext _ rfl h
     have hk:kindN s p t (p+(l.takeWhile wsp).length)=1∨kindN s p t (p+(l.takeWhile wsp).length)=2:=by
      have hb0:byt s p≠45∧byt s p≠46:=by
       by_cases hz:(l.takeWhile wsp).length=0
       ·rw[hz,Nat.add_zero] at x2
        rw[x2]
        rcases hx with rfl|rfl <;> decide
       ·have:=w1 p (by omega) (Nat.le_refl _)
        constructor <;> intro e <;> rw[e] at this <;> revert this <;> decide
      unfold kindN
      rw[mk3_not hb0.1,mk3_not hb0.2,if_neg (by decide),if_neg (by decide)]
      rcases hx with rfl|rfl
      ·left
       rw[if_pos]
       refine Decidable.byContradiction fun hc=>?_
       exact ht.2.2.1 _ (show p+(l.takeWhile wsp).length<t by omega) (by omega) x2
      ·by_cases e:p+(l.takeWhile wsp).length=t
       ·exact .inl (if_pos e)
       ·right;rw[if_neg e,if_pos (show byt s _=35 from x2)]
     exact ⟨L,hL,.met hps ht hF hi (by omega) (by omega) (fun e=>by omega) (fun e=>by omega) hN⟩
    ·rw[if_neg hx] at h
     split at h
     ·rename_i hc
      obtain ⟨hc1,hc2⟩:=hc
      obtain ⟨L,hL,hN⟩:=hnext _ rfl h
      have hb0:byt s p≠45∧byt s p≠46:=by
       by_cases hz:(l.takeWhile wsp).length=0
       ·have hl0:l.takeWhile wsp=[]:=List.eq_nil_of_length_eq_zero hz
        have hdl:l.dropWhile wsp=l:=by
         have:=List.takeWhile_append_dropWhile (p:=wsp) (l:=l)
         rw[hl0] at this
         simpa using this
        rcases hc1 with hc1|hc1
        ·exact absurd (hd.symm.trans hdl) hc1
        ·rw[hz,Nat.add_zero] at x2
         rw[x2]
         exact ⟨fun e=>hc1.1 ((u8_eq (by decide)).1 e),fun e=>hc1.2 ((u8_eq (by decide)).1 e)⟩
       ·have:=w1 p (by omega) (Nat.le_refl _)
        constructor <;> intro e <;> rw[e] at this <;> revert this <;> decide
      have hk34:kindN s p t (p+(l.takeWhile wsp).length)≠3∧kindN s p t (p+(l.takeWhile wsp).length)≠4:=by
       unfold kindN
       rw[mk3_not hb0.1,mk3_not hb0.2,if_neg (by decide),if_neg (by decide)]
       split
       ·decide
       ·split <;> decide
      have hni:n<(i:Int):=by
       obtain ⟨q1,q2⟩:=pre_blank hl
       obtain ⟨i1,i2,i3⟩:=hi
       have hle:(l.takeWhile (·=32)).length≤i:=by
        refine Decidable.byContradiction fun hcc=>?_
        have hb:=q1 i (by omega)
        rcases i3 with e|e
        ·have hti:p+(l.takeWhile wsp).length≤p+i:=by omega
         by_cases hlt:(l.takeWhile wsp).length=i
         ·rw[hlt] at x2
          rw[x2] at hb
          have hx32:x=32:=(u8_eq (by decide)).1 hb
          rw[hx32] at hxw;exact absurd hxw (by decide)
         ·have hw2:=q1 (l.takeWhile wsp).length (by omega)
          rw[x2] at hw2
          have hx32:x=32:=(u8_eq (by decide)).1 hw2
          rw[hx32] at hxw;exact absurd hxw (by decide)
        ·exact e hb
       omega
      exact ⟨L,hL,.met hps ht hF hi hk34.1 hk34.2 (fun _ e=>by cases e) (fun _ _ _=>hni) hN⟩
     ·cases h
  | false=>
   rw[if_neg (by decide)] at h
   cases l with
   | nil=>cases h
   | cons x l'=>
    obtain ⟨x1,x2,x3⟩:=hl.cons
    dsimp only at h
    split at h
    ·rename_i hw
     cases hr:wN n g l' false true f (o.map (·.1)) b with
     | none=>rw[hr] at h;cases h
     | some r=>
      obtain ⟨ts',S',k'⟩:=r
      rw[hr] at h
      injection h with h;injection h with h1 h;injection h with h2 h3
      subst h1 h2
      have hwx:U.white (byt s p:Int)=true:=by rw[x2,wsp_white];exact hw
      obtain ⟨L,hL,hN⟩:=ih l' (p+1) k' false true f o b x3 (by omega) (fun _=>.inl ⟨fun _=>.inr (.inl hwx),fun _=>rfl⟩) (fun e=>by cases e) hr
      have h3':k'+1=k:=h3
      exact ⟨L,hL,.white x1 hwx (by rw[show p+k=p+1+k' by omega];exact hN)⟩
    ·rename_i hw
     have hwx:U.white (byt s p:Int)=false:=by rw[x2,wsp_white];simpa using hw
     split at h
     ·rename_i h10
      cases hr:wN n g l' true true false (o.map (·.1)) b with
      | none=>rw[hr] at h;cases h
      | some r=>
       obtain ⟨ts',S',k'⟩:=r
       rw[hr] at h
       injection h with h;injection h with h1 h;injection h with h2 h3
       subst h1 h2
       have hb10:byt s p=10:=by rw[x2,h10];rfl
       obtain ⟨L,hL,hN⟩:=ih l' (p+1) k' true true false o b x3 (by omega) (fun e=>by cases e) (fun _=>⟨by omega,hb10⟩) hr
       have h3':k'+1=k:=h3
       exact ⟨L,hL,.lf x1 hb10 (by rw[show p+k=p+1+k' by omega];exact hN)⟩
     ·rename_i h10
      have hb10:byt s p≠10:=fun e=>h10 ((u8_eq (by decide)).1 (x2.symm.trans e))
      have hpv2:=(hpv rfl).resolve_right hb10
      have hnt:=nt_of hpv2
      split at h
      ·rename_i h35
       obtain ⟨h35,hpt⟩:=h35
       have hb35:byt s p=35:=by rw[x2,h35];rfl
       rw[hpt,hb35] at hnt
       obtain ⟨r1,r2,r3⟩:=pre_row x3
       obtain ⟨w,e1,e2,e3⟩:=rtr_spec (l'.takeWhile (·≠10))
       cases hd:l'.dropWhile (·≠10) with
       | nil=>rw[hd] at h;cases h
       | cons y r=>
        rw[hd] at h r2
        dsimp only at h
        obtain ⟨c,hc⟩:∃ c,l'.takeWhile (·≠10)=c:=⟨_,rfl⟩
        rw[hc] at h r1 r2 r3 e1 e3
        have hy:y=10:=by
         have:=dw_head hd
         simpa using this
        obtain ⟨y1,y2,_⟩:=r2.cons
        have hyt:byt s (p+1+c.length)=10:=by rw[y2,hy];rfl
        have hE:RowE s p (p+1+c.length):=⟨by omega,by omega,fun j j1 j2=>by
         by_cases e:j=p
         ·rw[e];exact hb10
         ·exact r1 j j1 (by omega),.inr hyt⟩
        have hwl:c.length=(rtr c).length+w.length:=by rw[←List.length_append,←e1]
        have hpc:Pre s (p+1) (rtr c++(w++l'.dropWhile (·≠10))):=by rw[←List.append_assoc,←e1];exact r3
        have hB:BakN s (p+1) (p+1+c.length) (p+1+(rtr c).length):=⟨by omega,by omega,fun j j1 j2=>by
         have hb:=hpc.app.2.app.1.byte (j-(p+1+(rtr c).length)) (by omega)
         rw[show p+1+(rtr c).length+(j-(p+1+(rtr c).length))=j by omega] at hb
         rw[hb,wsp_white]
         refine e2 _ ?_
         simp only[List.getD]
         rw[List.getElem?_eq_getElem (by omega),Option.getD_some]
         exact List.getElem_mem _,by
         rcases e3 with e3|⟨y',t',e3,e4⟩
         ·left;rw[e3];rfl
         ·right
          have hb:=hpc.app.1.byte t'.length (by rw[e3];simp)
          rw[e3] at hb ⊢
          rw[List.length_append,show p+1+(t'.length+[y'].length)-1=p+1+t'.length by show p+1+(t'.length+1)-1=_;omega,hb]
          have:(t'++[y']).getD t'.length 0=y':=by simp[List.getD]
          rw[this,wsp_white]
          exact e4⟩
        obtain ⟨k0,d,hA⟩:=Abv.ex s p
        cases hr:wN n g (y :: r) false false f (o.map (·.1)++[rtr c]) (if o.map (·.1)=[] then f else b) with
        | none=>rw[hr] at h;cases h
        | some z=>
         obtain ⟨ts',S',k'⟩:=z
         rw[hr] at h
         injection h with h;injection h with h1 h;injection h with h2 h3
         subst h1 h2
         have h3':k'+(1+c.length)=k:=h3
         obtain ⟨L,hL,hN⟩:=ih (y :: r) (p+1+c.length) k' false false f (o++[(rtr c,d)]) (if o=[] then (true&&f) else b) r2 (by omega) (fun _=>.inr hyt) (fun e=>by cases e) (by
          rw[List.map_append,←hr]
          cases o <;> rfl)
         refine ⟨L,hL,.com x1 hnt hE hB hA ?_⟩
         rw[hpc.piece,show p+k=p+1+c.length+k' by omega]
         exact hN
      ·rename_i h35
       injection h with h;injection h with h1 h;injection h with h2 h3
       subst h1 h2
       have h3':0=k:=h3
       have hnt2:ntB s p=false:=by
        rw[hnt,Bool.and_eq_false_iff]
        by_cases hp35:byt s p=35
        ·right
         cases pv with
         | false=>rfl
         | true=>exact absurd ⟨(u8_eq (by decide)).1 (x2.symm.trans hp35),rfl⟩ h35
        ·left;exact decide_eq_false hp35
       exact ⟨o,rfl,.stop x1 hwx hb10 hnt2 rfl rfl (by omega) rfl⟩
def betwF (n:Int) (l:List UInt8) (pv:Bool):Option (List (List UInt8) × Bool × Nat):=wN n (2*l.length+2) l false pv true [] false
theorem betw_of {s:ByteArray} {n:Int} {p:Nat} {l:List UInt8} {pv:Bool} {ts:List (List UInt8)} {S:Bool} {k:Nat} (h0:0<p) (hl:Pre s p l) (hb:byt s (p-1)≠10) (hw:U.white (byt s (p-1):Int)=pv) (h:betwF n l pv=some (ts,S,k)) (hp:p≤s.size):∃ L:Coms,L.map (·.1)=ts∧betwR s n p (.ok (L,S,p+k)):=by
 obtain ⟨L,hL,hN⟩:=wN_sound (s:=s) (a:=p) _ l p k false pv true [] false hl (Nat.le_refl _) (fun _=>.inl ⟨fun e=>.inr (.inl (hw.trans e)),fun e=>by
  rcases e with e|e|e
  ·omega
  ·exact hw.symm.trans e
  ·exact absurd e hb⟩) (fun e=>by cases e) h
 obtain ⟨r0,hr⟩:=RowB.ex s p
 have hne:p≠r0:=by
  intro e
  rcases hr.2.2 with h1|h1
  ·omega
  ·rw[←e] at h1;exact hb h1
 refine ⟨L,hL,L,S,((p+k:Nat):Int),0,⟨r0,p+k,by rw[clampN_nat hp];exact hr,rfl,?_⟩,?_⟩
 ·rw[clampN_nat hp,decide_eq_false hne]
  exact hN
 ·rw[if_pos rfl,Int.toNat_natCast]
end Go.Proofs.YtncngeamdechmaaGreatDoor
