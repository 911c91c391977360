/- Parts of the proof of StreMarks, put together from smaller texts (blanks that Lean does not want are struck). Conditions: those that each theorem writes out. -/
import Derived.Laws.Cover4
import Derived.Lib.MapLaws
import Derived.Shelf.GgClosure.StringsIndexFunc
import Derived.Shelf.GgClosure.StringsTrimFunc
import Derived.Shelf.LaysC
import Derived.Shelf.LaysM
import Derived.Shelf.Small.Strs
import Derived.Shelf.Small.Utf8
import Derived.Shelf.Small.Wraps
import Derived.Shelf.Strconv.Clone
import Derived.Shelf.Strconv.Itoa0
import Derived.Shelf.Strconv.SyntaxError
import Derived.Shelf.Strconv.ToError
import Derived.Shelf.Strings.AsciiSet
import Derived.Shelf.Strings.Builder1
import Derived.Shelf.Strings.Builder2
import Derived.Shelf.Strings.BuilderF
import Derived.Shelf.Strings.BuilderK
import Derived.Shelf.Strings.BuilderRune
import Derived.Shelf.Strings.Count
import Derived.Shelf.Strings.LastIndex
import Derived.Shelf.Strings.OnBuilder
import Derived.Shelf.Strings.Prefix
import Derived.Shelf.Strings.Runes
import Derived.Shelf.Strings.Search1
import Derived.Shelf.Strings.Search2
import Derived.Shelf.Strings.Search3
import Derived.Shelf.Strings.Shaped
import Derived.Shelf.Strings.Split
import Derived.Shelf.Strings.Trim
import Derived.Shelf.Unicode.DecodeAny
import Derived.Shelf.Unicode.DecodeLast
import Derived.Shelf.Unicode.DecodeSlow
import Derived.Test.YthcmkpiajkbpnaaGreatDoorEStreMarks0
import Derived.Test.YthcmkpiajkbpnaaGreatDoorProg
import Derived.Test.YthcmkpiajkbpnaaGreatDoorZ00
import Derived.Test.YthcmkpiajkbpnaaGreatDoorZ01
import Derived.Test.YthcmkpiajkbpnaaGreatDoorZ02
import Derived.Test.YthcmkpiajkbpnaaGreatDoorZ03
import Derived.Test.YthcmkpiajkbpnaaGreatDoorZ05
import Derived.Test.YthcmkpiajkbpnaaGreatDoorZ06
import Derived.Test.YthcmkpiajkbpnaaGreatDoorZ10
import Derived.Test.YthcmkpiajkbpnaaGreatDoorZ11
namespace Go.Proofs.YthcmkpiajkbpnaaGreatDoor
open Go.RowKit
def marK (fin:Bool):List UInt8→Bool
 | [x,y,z]=>fin&&(decide (x=45∨x=46)&&(decide (y=x)&&decide (z=x)))
 | x :: y :: z :: e :: _=>decide (x=45∨x=46)&&(decide (y=x)&&(decide (z=x)&&(wsp e||decide (e=10))))
 | _=>false
theorem mark_three {s:ByteArray} {p t q c:Nat} (hc:c=45∨c=46) (h0:byt s p=c) (h1:byt s (p+1)=c) (h2:byt s (p+2)=c) (h3:p+3≤s.size) (ht:RowE s p t) (he:p+3<s.size→U.white (byt s (p+3):Int)=true∨byt s (p+3)=10):kindN s p t q=3∨kindN s p t q=4:=by
 have hb3:p+3≤t:=by
  refine Decidable.byContradiction fun hn=>?_
  have hp:=ht.1
  have h4:t=p∨t=p+1∨t=p+2:=by omega
  rcases ht.2.2.2 with h|h
  ·omega
  ·rcases h4 with e|e|e <;> rw[e] at h <;> omega
 have hmk:mk3 s p t c=true:=by
  unfold mk3
  rw[decide_eq_true_eq]
  refine ⟨hb3,h0,h1,h2,?_⟩
  by_cases e3:p+3=t
  ·exact .inl e3
  ·right
   have h5:=ht.2.1
   rcases he (by omega) with h|h
   ·exact h
   ·exact absurd h (ht.2.2.1 (p+3) (by omega) (by omega))
 unfold kindN
 rcases hc with rfl|rfl
 ·rw[if_pos hmk];exact .inl rfl
 ·rw[mk3_not (by rw[h0];decide),if_neg (by decide),if_pos hmk];exact .inr rfl
theorem mark_kind {s:ByteArray} {fin:Bool} {p t q:Nat} {l:List UInt8} (h:Pre s p l) (hf:fin=true→s.size=p+l.length) (hm:marK fin l=true) (ht:RowE s p t):kindN s p t q=3∨kindN s p t q=4:=by
 unfold marK at hm
 split at hm
 ·rename_i x y z
  rw[Bool.and_eq_true,Bool.and_eq_true,Bool.and_eq_true,decide_eq_true_eq,decide_eq_true_eq,decide_eq_true_eq] at hm
  obtain ⟨hfin,hx,rfl,rfl⟩:=hm
  have hz:=hf hfin
  simp only[List.length_cons,List.length_nil] at hz
  obtain ⟨a1,a2,h⟩:=h.cons
  obtain ⟨b1,b2,h⟩:=h.cons
  obtain ⟨c1,c2,h⟩:=h.cons
  exact mark_three (by rcases hx with rfl|rfl <;> decide) a2 b2 c2 (by omega) ht (fun e=>by omega)
 ·rename_i x y z e l'
  rw[Bool.and_eq_true,Bool.and_eq_true,Bool.and_eq_true,Bool.or_eq_true,decide_eq_true_eq,decide_eq_true_eq,decide_eq_true_eq,decide_eq_true_eq] at hm
  obtain ⟨hx,rfl,rfl,he⟩:=hm
  obtain ⟨a1,a2,h⟩:=h.cons
  obtain ⟨b1,b2,h⟩:=h.cons
  obtain ⟨c1,c2,h⟩:=h.cons
  obtain ⟨d1,d2,h⟩:=h.cons
  refine mark_three (by rcases hx with rfl|rfl <;> decide) a2 b2 c2 (by omega) ht (fun _=>?_)
  rw[show p+3=p+1+1+1 from rfl,d2]
  rcases he with he|he
  ·left;rw[wsp_white];exact he
  ·right;rw[he];rfl
 ·cases hm
def offK:List UInt8→Bool
 | _ :: _ :: _ :: e :: _=>!(wsp e||decide (e=10))
 | _=>false
theorem off_mark {s:ByteArray} {p t c:Nat} {l:List UInt8} (h:Pre s p l) (hm:offK l=true) (ht:RowE s p t):mk3 s p t c=false:=by
 unfold offK at hm
 split at hm
 ·rename_i x y z e l'
  rw[Bool.not_eq_true',Bool.or_eq_false_iff,decide_eq_false_iff_not] at hm
  obtain ⟨a1,a2,h⟩:=h.cons
  obtain ⟨b1,b2,h⟩:=h.cons
  obtain ⟨c1,c2,h⟩:=h.cons
  obtain ⟨d1,d2,h⟩:=h.cons
  unfold mk3
  rw[decide_eq_false_iff_not]
  rintro ⟨g1,g2,g3,g4,g5⟩
  rcases g5 with g5|g5
  ·rcases ht.2.2.2 with h|h
   ·omega
   ·rw[←g5,show p+3=p+1+1+1 from rfl,d2] at h
    exact hm.2 ((u8_eq (by decide)).1 h)
  ·rw[show p+3=p+1+1+1 from rfl,d2,wsp_white,hm.1] at g5
   cases g5
 ·cases hm
def wS (fin:Bool):Nat→List UInt8→Bool→Bool→Bool→List (List UInt8)→Bool→Option (List (List UInt8) × Bool × Nat)
 | 0,_,_,_,_,_,_=>none
 | g+1,l,m,pv,f,o,b=>
  if m=true then
   match l.dropWhile wsp with
   | []=>if fin=true then (if l=[] then some (o,b,0) else wS fin g l false true f o b) else none
   | x :: r=>
    if x=10∨x=35 then wS fin g l false true f o b
    else if marK fin l=true then some (o,b,0)
    else if (∀ y∈l.takeWhile wsp,y=32)∧(l.dropWhile wsp≠l∨(x≠45∧x≠46)∨(r≠[]∧r.head?≠some x)∨offK l=true) then wS fin g l false true f o b else none
  else match l with
   | []=>if fin=true then some (o,b,0) else none
   | x :: l'=>
    if wsp x=true then (wS fin g l' false true f o b).map fun r=>(r.1,r.2.1,r.2.2+1)
    else if x=10 then (wS fin g l' true true false o b).map fun r=>(r.1,r.2.1,r.2.2+1)
    else if x=35∧pv=true then
     match l'.dropWhile (·≠10) with
     | []=>if fin=true then some (o++[rtr (l'.takeWhile (·≠10))],(if o=[] then f else b),1+(l'.takeWhile (·≠10)).length) else none
     | y :: r=>(wS fin g (y :: r) false false f (o++[rtr (l'.takeWhile (·≠10))]) (if o=[] then f else b)).map fun r=>(r.1,r.2.1,r.2.2+(1+(l'.takeWhile (·≠10)).length))
    else some (o,b,0)
theorem mk3_not2 {s:ByteArray} {a b ch:Nat} (h:byt s (a+1)≠ch):mk3 s a b ch=false:=by
 unfold mk3
 rw[decide_eq_false_iff_not]
 exact fun e=>h e.2.2.1
theorem dw_nil {l:List UInt8} (h:l.dropWhile wsp=[]):∀ x∈l,wsp x=true:=by
 intro x hx
 have:=List.takeWhile_append_dropWhile (p:=wsp) (l:=l)
 rw[h,List.append_nil] at this
 rw[←this] at hx
 exact tw_mem hx
theorem wS_sound {s:ByteArray} {fin:Bool} {a:Nat} {sm:Bool} {ts:List (List UInt8)} {S:Bool}:∀ (g:Nat) (l:List UInt8) (p k:Nat) (m pv f:Bool) (o:List (List UInt8 × Nat)) (b:Bool),Pre s p l→(fin=true→s.size=p+l.length)→(m=false→(pv=true↔(p=0∨U.white (byt s (p-1):Int)=true∨byt s (p-1)=10))∨byt s p=10)→(m=true→p=0∨byt s (p-1)=10) →
  wS fin g l m pv (sm&&f) (o.map (·.1)) b=some (ts,S,k)→∃ L,L.map (·.1)=ts∧NZ s false 0 a sm L S (p+k) 0 p m f o b:=by
 intro g
 induction g with
 | zero=>intro l p k m pv f o b _ _ _ _ h;cases h
 | succ g ih=>
  intro l p k m pv f o b hl hf hpv hm h
  unfold wS at h
  cases m with
  | true=>
   rw[if_pos rfl] at h
   have hm2:=hm rfl
   obtain ⟨w1,w2⟩:=pre_white hl
   have hnext:∀ w,w=wS fin g l false true (sm&&f) (o.map (·.1)) b→w=some (ts,S,k)→∃ L,L.map (·.1)=ts∧NZ s false 0 a sm L S (p+k) 0 p false f o b:=fun w e1 e2=>
    ih l p k false true f o b hl hf (fun _=>.inl ⟨fun _=>hm2.elim .inl (fun e=>.inr (.inr e)),fun _=>rfl⟩) (fun e=>by cases e) (by rw[←e1,e2])
   cases hd:l.dropWhile wsp with
   | nil=>
    rw[hd] at h
    dsimp only at h
    split at h
    ·rename_i hfin
     have hsz:=hf hfin
     split at h
     ·rename_i hl0
      injection h with h;injection h with h1 h;injection h with h2 h3
      subst h1 h2 hl0
      have h3':0=k:=h3
      simp at hsz
      exact ⟨o,rfl,.over (by omega) rfl rfl (by omega) rfl⟩
     ·rename_i hl0
      obtain ⟨L,hL,hN⟩:=hnext _ rfl h
      have hall:=dw_nil hd
      have hlen:0<l.length:=by cases l with
       | nil=>exact absurd rfl hl0
       | cons x l=>exact Nat.succ_pos _
      have htw:(l.takeWhile wsp).length=l.length:=by
       have:=List.takeWhile_append_dropWhile (p:=wsp) (l:=l)
       rw[hd,List.append_nil] at this
       rw[this]
      rw[htw] at w1
      have hE:RowE s p s.size:=⟨by omega,Nat.le_refl _,(fun j j1 j2 e=>by
       have:=w1 j (by omega) j2
       rw[e] at this
       cases this),.inl rfl⟩
      have hF:FirN s p s.size s.size:=⟨by omega,Nat.le_refl _,fun j j1 j2=>w1 j (by omega) j2,.inl rfl⟩
      obtain ⟨i,hi⟩:=InN.ex s p s.size hE.1
      have hb0:byt s p≠45∧byt s p≠46:=by
       have:=w1 p (by omega) (Nat.le_refl _)
       constructor <;> intro e <;> rw[e] at this <;> revert this <;> decide
      have hk:kindN s p s.size s.size=1:=by
       unfold kindN
       rw[mk3_not hb0.1,mk3_not hb0.2,if_neg (by decide),if_neg (by decide),if_pos rfl]
      exact ⟨L,hL,.met (by omega) hE hF hi (by omega) (by omega) (fun e=>by omega) (fun e=>by omega) hN⟩
    ·cases h
   | cons x r=>
    rw[hd] at h w2
    dsimp only at h
    obtain ⟨x1,x2,x3⟩:=w2.cons
    have hxw:wsp x=false:=dw_head hd
    have hps:p<s.size:=by omega
    obtain ⟨t,ht⟩:=RowE.ex s p (by omega)
    have hq:∀ j,j<p+(l.takeWhile wsp).length→p≤j→byt s j≠10:=fun j j1 j2 e=>by
     have:=w1 j j1 j2
     rw[e] at this
     cases this
    have hqt:p+(l.takeWhile wsp).length≤t:=by
     refine Decidable.byContradiction fun hc=>?_
     rcases ht.2.2.2 with e|e
     ·omega
     ·exact hq t (by omega) ht.1 e
    have hF:FirN s p t (p+(l.takeWhile wsp).length):=⟨by omega,hqt,w1,.inr (by rw[x2,wsp_white];exact hxw)⟩
    obtain ⟨i,hi⟩:=InN.ex s p t ht.1
    by_cases hx:x=10∨x=35
    ·rw[if_pos hx] at h
     obtain ⟨L,hL,hN⟩:=hnext _ rfl h
     have hk:kindN s p t (p+(l.takeWhile wsp).length)=1∨kindN s p t (p+(l.takeWhile wsp).length)=2:=by
      have hb0:byt s p≠45∧byt s p≠46:=by
       by_cases hz:(l.takeWhile wsp).length=0
       ·rw[hz,Nat.add_zero] at x2
        rw[x2]
        rcases hx with rfl|rfl <;> decide
       ·have:=w1 p (by omega) (Nat.le_refl _)
        constructor <;> intro e <;> rw[e] at this <;> revert this <;> decide
      unfold kindN
      rw[mk3_not hb0.1,mk3_not hb0.2,if_neg (by decide),if_neg (by decide)]
      rcases hx with rfl|rfl
      ·left
       rw[if_pos]
       refine Decidable.byContradiction fun hc=>?_
       exact ht.2.2.1 _ (show p+(l.takeWhile wsp).length<t by omega) (by omega) x2
      ·by_cases e:p+(l.takeWhile wsp).length=t
       ·exact .inl (if_pos e)
       ·right;rw[if_neg e,if_pos (show byt s _=35 from x2)]
     exact ⟨L,hL,.met hps ht hF hi (by omega) (by omega) (fun e=>by omega) (fun e=>by omega) hN⟩
    ·rw[if_neg hx] at h
     by_cases hmk:marK fin l=true
     ·rw[if_pos hmk] at h
      injection h with h;injection h with h1 h;injection h with h2 h3
      subst h1 h2
      have h3':0=k:=h3
      exact ⟨o,rfl,.mark hps ht hF (mark_kind hl hf hmk ht) (.inl rfl) rfl rfl (by omega) rfl⟩
     rw[if_neg hmk] at h
     split at h
     ·rename_i hc
      obtain ⟨hc1,hc2⟩:=hc
      obtain ⟨L,hL,hN⟩:=hnext _ rfl h
      have hb0:(byt s p≠45∧byt s p≠46)∨(mk3 s p t 45=false∧mk3 s p t 46=false):=by
       by_cases hz:(l.takeWhile wsp).length=0
       ·have hl0:l.takeWhile wsp=[]:=List.eq_nil_of_length_eq_zero hz
        have hdl:l.dropWhile wsp=l:=by
         have:=List.takeWhile_append_dropWhile (p:=wsp) (l:=l)
         rw[hl0] at this
         simpa using this
        rw[hz,Nat.add_zero] at x2 x3
        rcases hc2 with hc2|hc2|hc2|hc2
        ·exact absurd (hd.symm.trans hdl) hc2
        ·left
         rw[x2]
         exact ⟨fun e=>hc2.1 ((u8_eq (by decide)).1 e),fun e=>hc2.2 ((u8_eq (by decide)).1 e)⟩
        ·right
         obtain ⟨hr0,hr1⟩:=hc2
         cases r with
         | nil=>exact absurd rfl hr0
         | cons y r=>
          obtain ⟨_,y2,_⟩:=x3.cons
          have hyx:y≠x:=fun e=>hr1 (by rw[e];rfl)
          have key:∀ c:Nat,c<256→mk3 s p t c=false:=fun c hc=>by
           by_cases h1:byt s p=c
           ·refine mk3_not2 ?_
            intro h2
            rw[y2] at h2
            rw[x2] at h1
            exact hyx (UInt8.toNat_inj.1 (h2.trans h1.symm))
           ·exact mk3_not h1
          exact ⟨key 45 (by decide),key 46 (by decide)⟩
        ·right
         exact ⟨off_mark hl hc2 ht,off_mark hl hc2 ht⟩
       ·left
        have:=w1 p (by omega) (Nat.le_refl _)
        constructor <;> intro e <;> rw[e] at this <;> revert this <;> decide
      have hk34:kindN s p t (p+(l.takeWhile wsp).length)≠3∧kindN s p t (p+(l.takeWhile wsp).length)≠4:=by
       have h2:mk3 s p t 45=false∧mk3 s p t 46=false:=hb0.elim (fun h=>⟨mk3_not h.1,mk3_not h.2⟩) id
       unfold kindN
       rw[h2.1,h2.2,if_neg (by decide),if_neg (by decide)]
       split
       ·decide
       ·split <;> decide
      have hnt:NoTab s p (p+(l.takeWhile wsp).length):=fun j j1 j2=>by
       have hbj:=(show Pre s p (l.takeWhile wsp++l.dropWhile wsp) by rw[List.takeWhile_append_dropWhile];exact hl).app.1.byte (j-p) (by omega)
       rw[show p+(j-p)=j by omega] at hbj
       rw[hbj]
       have hin:(l.takeWhile wsp).getD (j-p) 0=32:=by
        refine hc1 _ ?_
        simp only[List.getD]
        rw[List.getElem?_eq_getElem (by omega),Option.getD_some]
        exact List.getElem_mem _
       rw[hin]
       decide
      exact ⟨L,hL,.met hps ht hF hi hk34.1 hk34.2 (fun _ _=>hnt) (fun _ e=>by cases e) hN⟩
     ·cases h
  | false=>
   rw[if_neg (by decide)] at h
   cases l with
   | nil=>
    dsimp only at h
    split at h
    ·rename_i hfin
     injection h with h;injection h with h1 h;injection h with h2 h3
     subst h1 h2
     have h3':0=k:=h3
     have hsz:=hf hfin
     simp at hsz
     exact ⟨o,rfl,.over (by omega) rfl rfl (by omega) rfl⟩
    ·cases h
   | cons x l'=>
    obtain ⟨x1,x2,x3⟩:=hl.cons
    have hf':fin=true→s.size=p+1+l'.length:=fun e=>by have:=hf e;simp at this;omega
    dsimp only at h
    split at h
    ·rename_i hw
     cases hr:wS fin g l' false true (sm&&f) (o.map (·.1)) b with
     | none=>rw[hr] at h;cases h
     | some r=>
      obtain ⟨ts',S',k'⟩:=r
      rw[hr] at h
      injection h with h;injection h with h1 h;injection h with h2 h3
      subst h1 h2
      have hwx:U.white (byt s p:Int)=true:=by rw[x2,wsp_white];exact hw
      obtain ⟨L,hL,hN⟩:=ih l' (p+1) k' false true f o b x3 hf' (fun _=>.inl ⟨fun _=>.inr (.inl hwx),fun _=>rfl⟩) (fun e=>by cases e) hr
      have h3':k'+1=k:=h3
      exact ⟨L,hL,.white x1 hwx (by rw[show p+k=p+1+k' by omega];exact hN)⟩
    ·rename_i hw
     have hwx:U.white (byt s p:Int)=false:=by rw[x2,wsp_white];simpa using hw
     split at h
     ·rename_i h10
      cases hr:wS fin g l' true true false (o.map (·.1)) b with
      | none=>rw[hr] at h;cases h
      | some r=>
       obtain ⟨ts',S',k'⟩:=r
       rw[hr] at h
       injection h with h;injection h with h1 h;injection h with h2 h3
       subst h1 h2
       have hb10:byt s p=10:=by rw[x2,h10];rfl
       obtain ⟨L,hL,hN⟩:=ih l' (p+1) k' true true false o b x3 hf' (fun e=>by cases e) (fun _=>.inr hb10) (by rw[Bool.and_false];exact hr)
       have h3':k'+1=k:=h3
       exact ⟨L,hL,.lf x1 hb10 (by rw[show p+k=p+1+k' by omega];exact hN)⟩
     ·rename_i h10
      have hb10:byt s p≠10:=fun e=>h10 ((u8_eq (by decide)).1 (x2.symm.trans e))
      have hpv2:=(hpv rfl).resolve_right hb10
      have hnt:=nt_of hpv2
      split at h
      ·rename_i h35
       obtain ⟨h35,hpt⟩:=h35
       have hb35:byt s p=35:=by rw[x2,h35];rfl
       rw[hpt,hb35] at hnt
       obtain ⟨r1,r2,r3⟩:=pre_row x3
       obtain ⟨w,e1,e2,e3⟩:=rtr_spec (l'.takeWhile (·≠10))
       cases hd:l'.dropWhile (·≠10) with
       | nil=>
        rw[hd] at h r2
        dsimp only at h
        obtain ⟨c,hc⟩:∃ c,l'.takeWhile (·≠10)=c:=⟨_,rfl⟩
        rw[hc] at h r1 r2 r3 e1 e3
        split at h
        ·rename_i hfin
         have hsz:=hf' hfin
         have hlc:l'=c:=by
          have hh:=List.takeWhile_append_dropWhile (p:=(·≠10)) (l:=l')
          rw[hc,hd,List.append_nil] at hh
          exact hh.symm
         rw[hlc] at hsz
         injection h with h;injection h with h1 h;injection h with h2 h3
         have h3':1+c.length=k:=h3
         have hE:RowE s p (p+1+c.length):=⟨by omega,by omega,fun j j1 j2=>by
          by_cases e:j=p
          ·rw[e];exact hb10
          ·exact r1 j j1 (by omega),.inl (by omega)⟩
         have hwl:c.length=(rtr c).length+w.length:=by rw[←List.length_append,←e1]
         have hpc:Pre s (p+1) (rtr c++(w++l'.dropWhile (·≠10))):=by rw[←List.append_assoc,←e1];exact r3
         have hB:BakN s (p+1) (p+1+c.length) (p+1+(rtr c).length):=⟨by omega,by omega,fun j j1 j2=>by
          have hb:=hpc.app.2.app.1.byte (j-(p+1+(rtr c).length)) (by omega)
          rw[show p+1+(rtr c).length+(j-(p+1+(rtr c).length))=j by omega] at hb
          rw[hb,wsp_white]
          refine e2 _ ?_
          simp only[List.getD]
          rw[List.getElem?_eq_getElem (by omega),Option.getD_some]
          exact List.getElem_mem _,by
          rcases e3 with e3|⟨y',t',e3,e4⟩
          ·left;rw[e3];rfl
          ·right
           have hb:=hpc.app.1.byte t'.length (by rw[e3];simp)
           rw[e3] at hb ⊢
           rw[List.length_append,show p+1+(t'.length+[y'].length)-1=p+1+t'.length by show p+1+(t'.length+1)-1=_;omega,hb]
           have:(t'++[y']).getD t'.length 0=y':=by simp[List.getD]
           rw[this,wsp_white]
           exact e4⟩
         obtain ⟨k0,d,hA⟩:=Abv.ex s p
         refine ⟨o++[(rtr c,d)],by rw[List.map_append,←h1];rfl,.com x1 hnt hE hB hA ?_⟩
         rw[hpc.piece]
         refine .over (by omega) rfl ?_ (by omega) rfl
         rw[←h2]
         cases o <;> rfl
        ·cases h
       | cons y r=>
        rw[hd] at h r2
        dsimp only at h
        obtain ⟨c,hc⟩:∃ c,l'.takeWhile (·≠10)=c:=⟨_,rfl⟩
        rw[hc] at h r1 r2 r3 e1 e3
        have hy:y=10:=by
         have:=dw_head hd
         simpa using this
        obtain ⟨y1,y2,_⟩:=r2.cons
        have hyt:byt s (p+1+c.length)=10:=by rw[y2,hy];rfl
        have hE:RowE s p (p+1+c.length):=⟨by omega,by omega,fun j j1 j2=>by
         by_cases e:j=p
         ·rw[e];exact hb10
         ·exact r1 j j1 (by omega),.inr hyt⟩
        have hwl:c.length=(rtr c).length+w.length:=by rw[←List.length_append,←e1]
        have hpc:Pre s (p+1) (rtr c++(w++l'.dropWhile (·≠10))):=by rw[←List.append_assoc,←e1];exact r3
        have hB:BakN s (p+1) (p+1+c.length) (p+1+(rtr c).length):=⟨by omega,by omega,fun j j1 j2=>by
         have hb:=hpc.app.2.app.1.byte (j-(p+1+(rtr c).length)) (by omega)
         rw[show p+1+(rtr c).length+(j-(p+1+(rtr c).length))=j by omega] at hb
         rw[hb,wsp_white]
         refine e2 _ ?_
         simp only[List.getD]
         rw[List.getElem?_eq_getElem (by omega),Option.getD_some]
         exact List.getElem_mem _,by
         rcases e3 with e3|⟨y',t',e3,e4⟩
         ·left;rw[e3];rfl
         ·right
          have hb:=hpc.app.1.byte t'.length (by rw[e3];simp)
          rw[e3] at hb ⊢
          rw[List.length_append,show p+1+(t'.length+[y'].length)-1=p+1+t'.length by show p+1+(t'.length+1)-1=_;omega,hb]
          have:(t'++[y']).getD t'.length 0=y':=by simp[List.getD]
          rw[this,wsp_white]
          exact e4⟩
        obtain ⟨k0,d,hA⟩:=Abv.ex s p
        cases hr:wS fin g (y :: r) false false (sm&&f) (o.map (·.1)++[rtr c]) (if o.map (·.1)=[] then (sm&&f) else b) with
        | none=>rw[hr] at h;cases h
        | some z=>
         obtain ⟨ts',S',k'⟩:=z
         rw[hr] at h
         injection h with h;injection h with h1 h;injection h with h2 h3
         subst h1 h2
         have h3':k'+(1+c.length)=k:=h3
         obtain ⟨L,hL,hN⟩:=ih (y :: r) (p+1+c.length) k' false false f (o++[(rtr c,d)]) (if o=[] then (sm&&f) else b) r2 (fun e=>by have:=hf' e;have hh:=List.takeWhile_append_dropWhile (p:=(·≠10)) (l:=l');rw[hc,hd] at hh;rw[←hh,List.length_append] at this;omega) (fun _=>.inr hyt) (fun e=>by cases e) (by
          rw[List.map_append,←hr]
          cases o <;> rfl)
         refine ⟨L,hL,.com x1 hnt hE hB hA ?_⟩
         rw[hpc.piece,show p+k=p+1+c.length+k' by omega]
         exact hN
      ·rename_i h35
       injection h with h;injection h with h1 h;injection h with h2 h3
       subst h1 h2
       have h3':0=k:=h3
       have hnt2:ntB s p=false:=by
        rw[hnt,Bool.and_eq_false_iff]
        by_cases hp35:byt s p=35
        ·right
         cases pv with
         | false=>rfl
         | true=>exact absurd ⟨(u8_eq (by decide)).1 (x2.symm.trans hp35),rfl⟩ h35
        ·left;exact decide_eq_false hp35
       exact ⟨o,rfl,.stop x1 hwx hb10 hnt2 rfl rfl (by omega) rfl⟩
theorem pass_of {s:ByteArray} {fin:Bool} {p:Nat} {l:List UInt8} {pv:Bool} {ts:List (List UInt8)} {S:Bool} {k:Nat} (h0:0<p) (hl:Pre s p l) (hf:fin=true→s.size=p+l.length) (hb:byt s (p-1)≠10) (hw:U.white (byt s (p-1):Int)=pv) (h:wS fin (2*l.length+2) l false pv true [] false=some (ts,S,k)) (hp:p≤s.size):∃ L:Coms,L.map (·.1)=ts∧passR s p (.ok (L,S,p+k)):=by
 obtain ⟨L,hL,hN⟩:=wS_sound (s:=s) (a:=p) (sm:=true) _ l p k false pv true [] false hl hf (fun _=>.inl ⟨fun e=>.inr (.inl (hw.trans e)),fun e=>by
  rcases e with e|e|e
  ·omega
  ·exact hw.symm.trans e
  ·exact absurd e hb⟩) (fun e=>by cases e) h
 obtain ⟨r0,hr⟩:=RowB.ex s p
 have hne:p≠r0:=by
  intro e
  rcases hr.2.2 with h1|h1
  ·omega
  ·rw[←e] at h1;exact hb h1
 refine ⟨L,hL,L,S,((p+k:Nat):Int),0,⟨r0,p+k,by rw[clampN_nat hp];exact hr,rfl,?_⟩,?_⟩
 ·rw[clampN_nat hp,decide_eq_false hne]
  exact hN
 ·rw[if_pos rfl,Int.toNat_natCast]
theorem pass_row {s:ByteArray} {fin:Bool} {p:Nat} {l:List UInt8} {ts:List (List UInt8)} {S:Bool} {k:Nat} (h0:p=0∨byt s (p-1)=10) (hl:Pre s p l) (hf:fin=true→s.size=p+l.length) (h:wS fin (2*l.length+2) l true true false [] false=some (ts,S,k)) (hp:p≤s.size):∃ L:Coms,L.map (·.1)=ts∧passR s p (.ok (L,S,p+k)):=by
 obtain ⟨L,hL,hN⟩:=wS_sound (s:=s) (a:=p) (sm:=false) _ l p k true true true [] false hl hf (fun e=>by cases e) (fun _=>h0) h
 have hr:RowB s p p:=⟨Nat.le_refl _,fun j j1 j2=>by omega,h0⟩
 refine ⟨L,hL,L,S,((p+k:Nat):Int),0,⟨p,p+k,by rw[clampN_nat hp];exact hr,rfl,?_⟩,?_⟩
 ·rw[clampN_nat hp,decide_eq_true rfl]
  exact hN
 ·rw[if_pos rfl,Int.toNat_natCast]
end Go.Proofs.YthcmkpiajkbpnaaGreatDoor
namespace Go.Proofs.YthcmkpiajkbpnaaGreatDoor
open Go.RowKit
theorem end_nat (b:UInt8):U.endc (b.toNat:Int)=decide (b=32∨b=9∨b=10):=by
 have:∀ n:Fin 256,U.endc (((UInt8.ofNat n.val).toNat:Nat):Int)=decide (UInt8.ofNat n.val=32∨UInt8.ofNat n.val=9∨UInt8.ofNat n.val=10):=by decide +kernel
 have h:=this ⟨b.toNat,UInt8.toNat_lt b⟩
 rwa [show UInt8.ofNat b.toNat=b from UInt8.ofNat_toNat] at h
end Go.Proofs.YthcmkpiajkbpnaaGreatDoor
