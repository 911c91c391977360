/- Parts of the proof of StreMarks, put together from smaller texts (blanks that Lean does not want are struck). Conditions: those that each theorem writes out. -/
import Derived.BigQuiet
import Derived.Deep.AppendLies
import Derived.Deep.AppendSrc
import Derived.Deep.CutRange
import Derived.Deep.DeepCutAuto
import Derived.Deep.DrawnRows
import Derived.Deep.LoopGhost
import Derived.Deep.MidRow
import Derived.Deep.Onto
import Derived.Deep.RegionHeld3
import Derived.Deep.RegionLaw
import Derived.Deep.RegionWith
import Derived.Deep.Upon
import Derived.Deep.WholeRow
import Derived.Defers
import Derived.Great.BuildSlice
import Derived.Laws.AppendOwnNone
import Derived.Laws.Cover4
import Derived.Laws.Tables
import Derived.Lib.AppendStr
import Derived.Lib.ConvBytes
import Derived.Lib.Join
import Derived.Lib.LaidU8T
import Derived.Lib.MapLaws
import Derived.Lib.SlTrimSet
import Derived.Lib.TrimAscii
import Derived.Lib.TrimUEq
import Derived.Recover
import Derived.RegionDies
import Derived.Shelf.GgClosure.StringsIndexFunc
import Derived.Shelf.GgClosure.StringsTrimFunc
import Derived.Shelf.LaysC
import Derived.Shelf.LaysM
import Derived.Shelf.Small.Strs
import Derived.Shelf.Small.Utf8
import Derived.Shelf.Small.Wraps
import Derived.Shelf.Strconv.Clone
import Derived.Shelf.Strconv.Itoa0
import Derived.Shelf.Strconv.SyntaxError
import Derived.Shelf.Strconv.ToError
import Derived.Shelf.Strings.AsciiSet
import Derived.Shelf.Strings.Builder1
import Derived.Shelf.Strings.Builder2
import Derived.Shelf.Strings.BuilderF
import Derived.Shelf.Strings.BuilderK
import Derived.Shelf.Strings.BuilderRune
import Derived.Shelf.Strings.Count
import Derived.Shelf.Strings.LastIndex
import Derived.Shelf.Strings.OnBuilder
import Derived.Shelf.Strings.Prefix
import Derived.Shelf.Strings.Runes
import Derived.Shelf.Strings.Search1
import Derived.Shelf.Strings.Search2
import Derived.Shelf.Strings.Search3
import Derived.Shelf.Strings.Shaped
import Derived.Shelf.Strings.SlTrimAscii
import Derived.Shelf.Strings.Split
import Derived.Shelf.Strings.Trim
import Derived.Shelf.Unicode.DecodeAny
import Derived.Shelf.Unicode.DecodeLast
import Derived.Shelf.Unicode.DecodeSlow
import Derived.StillTailTactics
import Derived.Stop.Asserts
import Derived.WalkLawsBesides
import Derived.Test.YthcmkpiajkbpnaaGreatDoorEStreMarks0
import Derived.Test.YthcmkpiajkbpnaaGreatDoorEStreMarks1
import Derived.Test.YthcmkpiajkbpnaaGreatDoorEStreMarks2
import Derived.Test.YthcmkpiajkbpnaaGreatDoorEStreMarks3
import Derived.Test.YthcmkpiajkbpnaaGreatDoorProg
import Derived.Test.YthcmkpiajkbpnaaGreatDoorRows
import Derived.Test.YthcmkpiajkbpnaaGreatDoorZ00
import Derived.Test.YthcmkpiajkbpnaaGreatDoorZ01
import Derived.Test.YthcmkpiajkbpnaaGreatDoorZ02
import Derived.Test.YthcmkpiajkbpnaaGreatDoorZ03
import Derived.Test.YthcmkpiajkbpnaaGreatDoorZ04
import Derived.Test.YthcmkpiajkbpnaaGreatDoorZ05
import Derived.Test.YthcmkpiajkbpnaaGreatDoorZ06
import Derived.Test.YthcmkpiajkbpnaaGreatDoorZ07
import Derived.Test.YthcmkpiajkbpnaaGreatDoorZ08
import Derived.Test.YthcmkpiajkbpnaaGreatDoorZ09
import Derived.Test.YthcmkpiajkbpnaaGreatDoorZ10
import Derived.Test.YthcmkpiajkbpnaaGreatDoorZ11
import Derived.Test.YthcmkpiajkbpnaaGreatDoorZ12
import Derived.Test.YthcmkpiajkbpnaaGreatDoorZ13
import Derived.Test.YthcmkpiajkbpnaaGreatDoorZ14
import Derived.Test.YthcmkpiajkbpnaaGreatDoorZ15
import Derived.Test.YthcmkpiajkbpnaaGreatDoorZ16
import Derived.Test.YthcmkpiajkbpnaaGreatDoorZ17
import Derived.Test.YthcmkpiajkbpnaaGreatDoorZ18
import Derived.Test.YthcmkpiajkbpnaaGreatDoorZ19
import Derived.Test.YthcmkpiajkbpnaaGreatDoorZ20
import Derived.Test.YthcmkpiajkbpnaaGreatDoorZ21
import Derived.Test.YthcmkpiajkbpnaaGreatDoorZ22
import Derived.Test.YthcmkpiajkbpnaaGreatDoorZ23
import Derived.Test.YthcmkpiajkbpnaaGreatDoorZ24
import Derived.Test.YthcmkpiajkbpnaaGreatDoorZ25
import Derived.Test.YthcmkpiajkbpnaaGreatDoorZ26
import Derived.Test.YthcmkpiajkbpnaaGreatDoorZ27
import Derived.Test.YthcmkpiajkbpnaaGreatDoorZ28
import Derived.Test.YthcmkpiajkbpnaaGreatDoorZ29
import Derived.Test.YthcmkpiajkbpnaaGreatDoorZ30
import Derived.Test.YthcmkpiajkbpnaaGreatDoorZ31
import Derived.Test.YthcmkpiajkbpnaaGreatDoorZ32
import Derived.Test.YthcmkpiajkbpnaaGreatDoorZ33
import Derived.Test.YthcmkpiajkbpnaaGreatDoorZ34
import Derived.Test.YthcmkpiajkbpnaaGreatDoorZ35
import Derived.Test.YthcmkpiajkbpnaaGreatDoorZ36
import Derived.Test.YthcmkpiajkbpnaaGreatDoorZ37
namespace Go.Proofs.YthcmkpiajkbpnaaGreatDoor
open Go.RowKit
def rbX (s:ByteArray) (a:Nat):Nat:=fndB s.size fun r=>decide (RowB s a r)
def ntX (s:ByteArray) (p:Nat):Option (Coms × Bool × Nat × Int):=
 if RowB s (min p s.size) (rbX s (min p s.size)) then nF s false 0 (min p s.size) (!(decide (min p s.size=rbX s (min p s.size)))) (3*s.size+3) (min p s.size) (decide (min p s.size=rbX s (min p s.size))) true [] false else none
theorem ntX_is {s:ByteArray} {p:Nat} {L:Coms} {S:Bool} {E:Nat} {C:Int} (h:ntX s p=some (L,S,E,C)):NoteZ s false 0 (p:Int) L S (E:Int) C:=by
 unfold ntX at h
 split at h
 ·rename_i h0
  have hc:clampN (p:Int) s.size=min p s.size:=by unfold clampN;omega
  refine ⟨_,E,by rw[hc];exact h0,rfl,?_⟩
  rw[hc]
  exact nF_sound _ _ _ _ _ _ _ _ _ _ _ _ _ _ _ h
 ·cases h
def pasX (s:ByteArray) (p:Nat):Option (Rd (Coms × Bool × Nat)):=match ntX s p with
 | some (L,S,E,C)=>some (if C=0 then .ok (L,S,E) else .bad E C)
 | none=>none
theorem pasX_is {s:ByteArray} {p:Nat} {o:Rd (Coms × Bool × Nat)} (h:pasX s p=some o):passR s p o∧∀ q c,o=.bad q c→c≠0:=by
 unfold pasX at h
 split at h
 ·rename_i L S E C hn
  injection h with h
  subst h
  refine ⟨⟨L,S,E,C,ntX_is hn,rfl⟩,fun q c e=>?_⟩
  split at e
  ·cases e
  ·injection e with e1 e2
   rw[←e2];assumption
 ·cases h
def bgnX (s:ByteArray) (q:Nat):Option Nat:=if RowB s q (rbX s q)∧q≤s.size then some (bgnN s q (kindN s (rbX s q) (rowX s q) (firX s (rbX s q) (rowX s q))) (q-rbX s q)) else none
theorem bgnX_is {s:ByteArray} {q k:Nat} (h:bgnX s q=some k):bgnR s q k∧q≤s.size:=by
 unfold bgnX at h
 split at h
 ·rename_i h0
  injection h with h
  have hr:=rowX_is h0.2
  exact ⟨⟨_,_,_,h0.1,hr,firX_is (Nat.le_trans h0.1.1 hr.1),h.symm⟩,h0.2⟩
 ·cases h
def strX (s:ByteArray):Nat→Nat→Coms→List (List UInt8)→List DT→Option (List DT × Coms × Int × Int)
 | 0,_,_,_,_=>none
 | g+1,p,H,ds,xs=>match pasX s p with
  | none=>none
  | some (.bad q c)=>some ([],[],(q:Int),c)
  | some (.ok (L,_,q))=>match bgnX s q with
   | none=>none
   | some k=>
    if ds≠[]∧k≠2∧k≠3 then some ([],[],(q:Int),5)
    else if k=2 then (match U.tRead (pieceL s q (rowX s q)) with
     | (d,cm,has,c)=>if c≠0 then some ([],[],(q:Int),c) else if U.tTwice ds d=true then some ([],[],(q:Int),5) else strX s g (rowX s q+1) (H++L++if has=true then [(cm,0)] else []) (ds++[d]) xs)
    else if k=3 then (match treeX s ((q+3:Nat):Int) true with
     | none=>none
     | some o=>match treeA s o with
      | (some x,F,e,0)=>if 0≤e then strX s g e.toNat [] [] (xs++[⟨H++L,ds,true,x,F⟩]) else none
      | (_,_,e,c)=>if c≠0 then some ([],[],e,c) else none)
    else if k=0 then some (xs,H++L,0,0)
    else if k=1 then (match ntX (cutB s (rowX s q)) (q+3) with
     | none=>none
     | some (L2,_,q2,_)=>if q2=rowX s q then strX s g (rowX s q+1) (H++L++L2) [] xs else if q2<rowX s q then some ([],[],(q2:Int),5) else none)
    else if k=4 then (match treeX s ((p:Nat):Int) false with
     | none=>none
     | some o=>match treeA s o with
      | (some x,F,e,0)=>if 0≤e then strX s g e.toNat [] [] (xs++[⟨H,[],false,x,F⟩]) else none
      | (_,_,e,c)=>if c≠0 then some ([],[],e,c) else none)
    else none
theorem strX_is {s:ByteArray} {D:List DT} {T:Coms} {E C:Int}:∀ (g p:Nat) (H:Coms) (ds:List (List UInt8)) (xs:List DT),strX s g p H ds xs=some (D,T,E,C)→SZ s D T E C g p H ds xs:=by
 intro g
 induction g with
 | zero=>intro p H ds xs h;cases h
 | succ g ih=>
  intro p H ds xs h
  unfold strX at h
  split at h
  ·cases h
  ·rename_i q c hp
   obtain ⟨hp,hc⟩:=pasX_is hp
   cases h
   exact .skipX hp (hc _ _ rfl) rfl rfl rfl rfl
  ·rename_i L S q hp
   have hp:=(pasX_is hp).1
   split at h
   ·cases h
   ·rename_i k hk
    obtain ⟨hk,hq⟩:=bgnX_is hk
    have hr:=rowX_is hq
    split at h
    ·rename_i h0
     cases h
     exact .lacks hp h0.1 hk h0.2.1 h0.2.2 rfl rfl rfl rfl
    ·rename_i h0
     split at h
     ·rename_i h2
      subst h2
      split at h
      rename_i d cm has c hd
      split at h
      ·rename_i hc
       cases h
       exact .dirX hp hk hr hd hc rfl rfl rfl rfl
      ·rename_i hc
       have hc:c=0:=by simpa using hc
       subst hc
       split at h
       ·rename_i ht
        cases h
        exact .dirTwo hp hk hr hd ht rfl rfl rfl rfl
       ·rename_i ht
        exact .dir hp hk hr hd (by simpa using ht) (ih _ _ _ _ h)
     ·rename_i h2
      split at h
      ·rename_i h3
       subst h3
       split at h
       ·cases h
       ·rename_i o ho
        have hZ:=treeX_is ho
        split at h
        ·rename_i x F e hA
         rw[hA] at hZ
         split at h
         ·rename_i he
          obtain ⟨e',rfl⟩:=Int.eq_ofNat_of_zero_le he
          exact .mark hp hk hZ (ih _ _ _ _ h)
         ·cases h
        ·rename_i y F e c _ hA
         rw[hA] at hZ
         split at h
         ·rename_i hc
          cases h
          exact .markX hp hk hZ hc rfl rfl rfl rfl
         ·cases h
      ·rename_i h3
       have hd:ds=[]:=Decidable.byContradiction fun e=>h0 ⟨e,h2,h3⟩
       subst hd
       split at h
       ·rename_i h4
        subst h4
        cases h
        exact .over hp hk rfl rfl rfl rfl
       ·split at h
        ·rename_i h5
         subst h5
         split at h
         ·cases h
         ·rename_i L2 S2 q2 c2 hn
          have hn:=ntX_is hn
          split at h
          ·rename_i he
           subst he
           exact .dots hp hk hr hn (ih _ _ _ _ h)
          ·split at h
           ·rename_i hlt
            cases h
            exact .dotsX hp hk hr hn hlt rfl rfl rfl rfl
           ·cases h
        ·split at h
         ·rename_i h6
          subst h6
          split at h
          ·cases h
          ·rename_i o ho
           have hZ:=treeX_is ho
           split at h
           ·rename_i x F e hA
            rw[hA] at hZ
            split at h
            ·rename_i he
             obtain ⟨e',rfl⟩:=Int.eq_ofNat_of_zero_le he
             exact .bare hp hk hZ (ih _ _ _ _ h)
            ·cases h
           ·rename_i y F e c _ hA
            rw[hA] at hZ
            split at h
            ·rename_i hc
             cases h
             exact .bareX hp hk hZ hc rfl rfl rfl rfl
            ·cases h
         ·cases h
def strA (s:ByteArray) (P:List DT→Coms→Int→Int→Bool):Bool:=match strX s 9 0 [] [] [] with
 | some (D,T,E,C)=>P D T E C
 | none=>false
theorem strA_is {s:ByteArray} {P:List DT→Coms→Int→Int→Bool} (h:strA s P=true):∃ D T E C,P D T E C=true∧StreZ s D T E C:=by
 unfold strA at h
 split at h
 ·rename_i D T E C hs
  exact ⟨D,T,E,C,h,9,by decide,strX_is _ _ _ _ _ hs⟩
 ·cases h
theorem awake18_a:∃ D T E C,(match D with | [d]=>decide (d.root.h.text=[97])&&(decide (T.map (·.1)=[[32,99]])&&decide (E=0∧C=0))|_=>false)=true∧StreZ ⟨#[97,10,46,46,46,10,35,32,99,10]⟩ D T E C:=strA_is (P:=fun D T E C=>match D with | [d]=>decide (d.root.h.text=[97])&&(decide (T.map (·.1)=[[32,99]])&&decide (E=0∧C=0))|_=>false) (by decide +kernel)
theorem awake18_b:∃ D T E C,decide (D.length=0∧T.length=0∧E=10∧C=5)=true∧StreZ ⟨#[37,89,65,77,76,32,49,46,50,10,97]⟩ D T E C:=strA_is (P:=fun D T E C=>decide (D.length=0∧T.length=0∧E=10∧C=5)) (by decide +kernel)
end Go.Proofs.YthcmkpiajkbpnaaGreatDoor
namespace Go.Proofs.YthcmkpiajkbpnaaGreatDoor
open Go.RowKit
attribute [local go_sem ↓] Go.wp_at_zero Go.wp_at_succ
theorem IsD.cells {R:Nat→Prop} {w:World} {d:DT} {cs:List Value} (h:IsD R w d cs):∃ (dv:Value),cs[1]?=some dv∧cs[2]?=some (.bool d.mark)∧cs[3]?=some (.int .i64 d.root.h.kind)∧cs[9]?=some (.string ⟨d.root.h.text.toArray⟩)∧TxtR R w dv d.dirs:=by
 obtain ⟨hv,dv,rc,fv,rfl,h1,h2,h3,h4⟩:=h
 obtain ⟨ka,la,fa,rfl,_⟩:=h3.open
 exact ⟨dv,rfl,rfl,rfl,rfl,h2⟩
set_option maxRecDepth 100000 in
set_option maxHeartbeats 6400000 in
theorem awake18_true {Ev:World→Prop} {P:ByteArray→Prop} (K:StreC Ev P) (w:World) (hE:Ev w):Calls Tryz.prog 12 #[] w fun e w'=>e=.returned (.bool true)∧Below w.heap.size w w':=by
 obtain ⟨D,T,E,C,hq,hZ⟩:=awake18_a
 obtain ⟨d,c,rfl,rfl,rfl,rfl,hdt,hct⟩:∃ d c,D=[d]∧T=[c]∧E=0∧C=0∧d.root.h.text=[97]∧c.1=[32,99]:=by
  split at hq
  ·rename_i d
   rw[Bool.and_eq_true,Bool.and_eq_true,decide_eq_true_eq,decide_eq_true_eq,decide_eq_true_eq] at hq
   obtain ⟨h1,h2,h3,h4⟩:=hq
   cases T with
   | nil=>cases h2
   | cons c T=>
    cases T with
    | nil=>
     simp only[List.map_cons,List.map_nil,List.cons.injEq,and_true] at h2
     exact ⟨d,c,rfl,rfl,h3,h4,h1,h2⟩
    | cons c2 T=>simp at h2
  ·cases hq
 obtain ⟨D2,T2,E2,C2,hq2,hZ2⟩:=awake18_b
 rw[decide_eq_true_eq] at hq2
 obtain ⟨hd2,ht2,rfl,rfl⟩:=hq2
 go_enter Tryz.func12,Tryz.ntmps12
 go_wp2_with fail
 refine (K.parse _ _ _ _ ⟨#[97,10,46,46,46,10,35,32,99,10]⟩ _ (by decide) (K.smp _ rfl) hE hZ).mono ?_
 rintro e w1 ⟨kv,tv,rfl,hD,hT,b1⟩
 obtain ⟨ka,kc,rfl,_,_,hk⟩:=hD
 obtain ⟨ta,tc,rfl,_,_,ht⟩:=hT
 obtain ⟨kb,ko,rfl,hkb,hk⟩:=hk Nat.one_pos
 obtain ⟨tb,tq,rfl,htb,ht⟩:=ht Nat.one_pos
 obtain ⟨cs,hcs,hd⟩:=hk 0 Nat.one_pos
 obtain ⟨dv,_,_,_,c9,_⟩:=hd.cells
 have hkb:kb<w1.heap.size:=hkb
 have htb:tb<w1.heap.size:=htb
 have k9:w1.cell? ⟨kb,ko+9,none⟩=some (.string ⟨#[97]⟩):=by
  have h:=hcs 9 (by decide)
  rw[c9] at h
  have hdt:([d][0]).root.h.text=[97]:=hdt
  rw[hdt] at h
  simpa using h
 have t0:w1.cell? ⟨tb,tq,none⟩=some (.string ⟨#[32,99]⟩):=by
  have h:=(ht 0 Nat.one_pos).1
  have hc:comT [c] 0=[32,99]:=hct
  rw[hc] at h
  simpa using h
 clear hk ht hcs hd c9 hZ
 have hE1:=K.keep _ _ hE b1
 go_wp2_with fail
 obtain ⟨WX,hWX⟩:∃ WX:World,WX=w1.alloc (.cells #[.slice (some ⟨kb,ko,none⟩) 1 kc,.slice (some ⟨tb,tq,none⟩) 1 tc] 42):=⟨_,rfl⟩
 have bX:Below w1.heap.size w1 WX:=by rw[hWX];exact (Below.refl _ _).alloc (Nat.le_refl _) _
 have rX:WX.heap[w1.heap.size]?=some (.cells #[.slice (some ⟨kb,ko,none⟩) 1 kc,.slice (some ⟨tb,tq,none⟩) 1 tc] 42 (0,0)):=by rw[hWX];exact heap_alloc_new w1 _
 have zX:w1.heap.size<WX.heap.size:=by rw[hWX];simp
 rw[←hWX]
 clear hWX
 refine (K.parse _ _ _ _ ⟨#[37,89,65,77,76,32,49,46,50,10,97]⟩ _ (by decide) (K.smp _ rfl) (K.keep _ _ hE1 bX) hZ2).mono ?_
 rintro e w2 ⟨kv2,tv2,rfl,hD2,hT2,b2⟩
 obtain ⟨ka2,kc2,rfl,_⟩:=hD2
 obtain ⟨ta2,tc2,rfl,_⟩:=hT2
 have bT:Below w.heap.size w w2:=(b1.trans (bX.mono b1.size)).trans (b2.mono (Nat.le_trans b1.size bX.size))
 have qX:=fun j=>cell_of_row w2 _ j _ _ _ ((b2.block w1.heap.size zX).trans rX)
 have q9:=(b2.cell (p:=⟨kb,ko+9,none⟩) (by show kb<_;omega)).trans ((bX.cell (p:=⟨kb,ko+9,none⟩) hkb).trans k9)
 have q0:=(b2.cell (p:=⟨tb,tq,none⟩) (by show tb<_;omega)).trans ((bX.cell (p:=⟨tb,tq,none⟩) htb).trans t0)
 have n1:w1.heap.size<w2.heap.size:=Nat.lt_of_lt_of_le zX b2.size
 have n2:kb<w2.heap.size:=by omega
 have n3:tb<w2.heap.size:=by omega
 clear rX b1 bX b2 k9 t0 hE1 hZ2
 go_wp2
 go_ret
 exact ⟨rfl,bT.alloc bT.size _⟩
end Go.Proofs.YthcmkpiajkbpnaaGreatDoor
namespace Go.Proofs.YthcmkpiajkbpnaaGreatDoor
open Go.RowKit
theorem firstIs:Rows.laid_unicode_utf8_first=Lib.firstData:=by kernel_rfl
theorem acceptIs:(Rows.laid_unicode_utf8_acceptRanges:DataW Unit)=Lib.acceptData:=by kernel_rfl
theorem tabsE_of (L : List (String × DataW Unit)) (W : World) (hL : laidMet Tryz.prog L W) (h1 : ("unicode/utf8.acceptRanges", Rows.laid_unicode_utf8_acceptRanges) ∈ L) (h2 : ("unicode/utf8.first", Rows.laid_unicode_utf8_first) ∈ L) : TabsE W := by
 rw[acceptIs] at h1
 rw[firstIs] at h2
 exact utf8Tabs_of_readsT (ρ:=Tryz.lays238_ren) { Tryz.lays238 with } ⟨by kernel_rfl,by kernel_rfl,by kernel_rfl,by kernel_rfl,by kernel_rfl,by kernel_rfl,by kernel_rfl⟩ (Lib.laidMet.reads hL h2) (Lib.laidMet.reads hL h1)
end Go.Proofs.YthcmkpiajkbpnaaGreatDoor
namespace Go.Proofs.YthcmkpiajkbpnaaGreatDoor
open Go.RowKit
def dsh:List UInt8:=[45,45,45]
def smPre:List (List UInt8):=[[32],[10],[32,35,32,99,10,32,32],[10,10]]
def smGap:List (List UInt8):=[[10],[10,10]]
def smFol:List (Bool × List UInt8):=[(true,[]),(false,[45,45,45,10]),(false,[45,45,45,32]),(false,[46,46,46,10]),(false,[46,46,46,32])]
def wAny (o:Option (List (List UInt8) × Bool × Nat)) (k:Nat):Bool:=match o with|some (_,_,j)=>decide (j=k)|none=>false
def wNo (o:Option (List (List UInt8) × Bool × Nat)) (k:Nat):Bool:=match o with|some ([],_,j)=>decide (j=k)|_=>false
theorem sm_pre:∀ e∈smPre,∀ w∈wordL,wAny (wS false (2*(e++w).length+2) (e++w) false false true [] false) e.length=true:=by decide +kernel
theorem sm_plain:∀ w∈wordL,∀ g∈smGap,∀ f∈smFol,plainK (-1) f.1 (w++(g++f.2))=some w.length:=by decide +kernel
theorem sm_gap:∀ g∈smGap,∀ f∈smFol,wNo (wS f.1 (2*(g++f.2).length+2) (g++f.2) false false true [] false) g.length=true:=by decide +kernel
theorem sm_row:∀ f∈smFol,wNo (wS f.1 (2*f.2.length+2) f.2 true true false [] false) 0=true:=by decide +kernel
theorem wAny_is {o:Option (List (List UInt8) × Bool × Nat)} {k:Nat} (h:wAny o k=true):∃ ts S,o=some (ts,S,k):=by
 unfold wAny at h
 split at h
 ·rename_i ts S j
  have:j=k:=by simpa using h
  exact ⟨ts,S,by rw[this]⟩
 ·cases h
theorem wNo_is {o:Option (List (List UInt8) × Bool × Nat)} {k:Nat} (h:wNo o k=true):∃ S,o=some ([],S,k):=by
 unfold wNo at h
 split at h
 ·rename_i S j
  have:j=k:=by simpa using h
  exact ⟨S,by rw[this]⟩
 ·cases h
section
variable {s:ByteArray}
theorem sm_over {p:Nat} {f:Bool × List UInt8} {l:List UInt8} (hf:f∈smFol) (hfin:f.1=true→s.size=p+f.2.length) (h0:p=0∨byt s (p-1)=10) (h:Pre s p (f.2++l)):overB s p=true:=by
 have hr:row0B s p=true:=by unfold row0B;rw[decide_eq_true_eq];exact h0
 have hm:∀ c e:Nat,(e=10∨e=32)→∀ l2,Pre s p (UInt8.ofNat c :: UInt8.ofNat c :: UInt8.ofNat c :: UInt8.ofNat e :: l2)→c<256→m3B s p c=true:=by
  intro c e he l2 h hc
  obtain ⟨a1,a2,h⟩:=h.cons
  obtain ⟨b1,b2,h⟩:=h.cons
  obtain ⟨c1,c2,h⟩:=h.cons
  have hen:=endU_is h
  have hcn:(UInt8.ofNat c).toNat=c:=by simp;omega
  unfold m3B
  rw[isB_in.2 ⟨a1,a2.trans hcn⟩,isB_in.2 ⟨b1,b2.trans hcn⟩,isB_in.2 ⟨c1,c2.trans hcn⟩]
  show endsB s ((p+1+1+1:Nat):Int)=true
  rw[hen]
  rcases he with rfl|rfl <;> rfl
 unfold overB
 rw[hr]
 unfold smFol at hf
 simp only[List.mem_cons,List.not_mem_nil,or_false] at hf
 rcases hf with rfl|rfl|rfl|rfl|rfl
 ·have:=hfin rfl
  rw[decide_eq_true (by simp at this;omega)];rfl
 ·rw[hm 45 10 (.inl rfl) l h (by decide)];simp
 ·rw[hm 45 32 (.inr rfl) l h (by decide)];simp
 ·rw[hm 46 10 (.inl rfl) l h (by decide)];simp
 ·rw[hm 46 32 (.inr rfl) l h (by decide)];simp
theorem sm_begin {p c e:Nat} {l:List UInt8} (hc:c=45∨c=46) (he:e=10∨e=32) (h0:p=0∨byt s (p-1)=10) (h:Pre s p (UInt8.ofNat c :: UInt8.ofNat c :: UInt8.ofNat c :: UInt8.ofNat e :: l)):bgnR s p (if c=45 then 3 else 1):=by
 obtain ⟨a1,a2,h⟩:=h.cons
 obtain ⟨b1,b2,h⟩:=h.cons
 obtain ⟨c1,c2,h⟩:=h.cons
 obtain ⟨d1,d2,h⟩:=h.cons
 have hcn:(UInt8.ofNat c).toNat=c:=by rcases hc with rfl|rfl <;> rfl
 have hen:(UInt8.ofNat e).toNat=e:=by rcases he with rfl|rfl <;> rfl
 rw[hcn] at a2 b2 c2
 rw[hen] at d2
 obtain ⟨b,hb⟩:=RowE.ex s p (Nat.le_of_lt a1)
 obtain ⟨q,hq⟩:=FirN.ex s p b hb.1
 have hb3:p+3≤b:=by
  refine Decidable.byContradiction fun hn=>?_
  have h1:=hb.1
  have:b=p∨b=p+1∨b=p+1+1:=by omega
  rcases hb.2.2.2 with h|h
  ·omega
  ·rcases this with e|e|e <;> rw[e] at h <;> rcases hc with rfl|rfl <;> omega
 have hmk:mk3 s p b c=true:=by
  unfold mk3
  rw[decide_eq_true_eq]
  refine ⟨hb3,a2,b2,c2,?_⟩
  by_cases e3:p+3=b
  ·exact .inl e3
  ·right
   rcases he with rfl|rfl
   ·exact absurd d2 (hb.2.2.1 (p+3) (by omega) (by omega))
   ·rw[show p+3=p+1+1+1 from rfl,d2];rfl
 refine ⟨p,b,q,⟨Nat.le_refl _,fun j h1 h2=>by omega,h0⟩,hb,hq,?_⟩
 unfold bgnN kindN
 rw[if_neg (Nat.not_le.2 a1)]
 rcases hc with rfl|rfl
 ·have h37:¬ (byt s p=37∧p-p=0):=fun h=>by omega
  show 3=_
  rw[if_pos hmk,if_neg (c:=(3:Int)=4) (by decide),if_neg h37,if_pos rfl]
 ·have hm45:¬ mk3 s p b 45=true:=by rw[mk3_not (by rw[a2];decide)];simp
  show 1=_
  rw[if_neg hm45,if_pos hmk,if_pos rfl]
theorem sm_word {blk:Nat→Nat→Rd Tre→Prop} {k:Spt} {p:Nat} {e w g:List UInt8} {f:Bool × List UInt8} {l:List UInt8} (hk:k.n=-1∧k.bare=false) (he:e∈smPre) (hw:w∈wordL) (hg:g∈smGap) (hf:f∈smFol) (hfin:f.1=true→s.size=p+e.length+w.length+g.length+f.2.length)
  (h0:0<p) (hb:byt s (p-1)=45) (hp:p≤s.size) (h:Pre s p (e++(w++(g++(f.2++l))))):∃ x:NT,x.h.kind=1∧x.h.text=w∧nodT s blk k p (.ok (x,[],p+e.length+w.length+g.length)):=by
 obtain ⟨a1,a2⟩:=h.app
 obtain ⟨b1,b2⟩:=a2.app
 have hsz:=h.size hp
 simp only[List.length_append] at hsz
 obtain ⟨ts,S,hw1⟩:=wAny_is (sm_pre e he w hw)
 obtain ⟨L,hL,hpass⟩:=pass_of (fin:=false) h0 (show Pre s p (e++w) from (show Pre s p ((e++w)++(g++(f.2++l))) by rw[List.append_assoc];exact h).app.1) (fun e=>by cases e) (by rw[hb];decide) (by rw[hb];rfl) hw1 hp
 have hwin:Pre s (p+e.length) (w++(g++f.2)):=(show Pre s (p+e.length) ((w++(g++f.2))++l) by simpa [List.append_assoc] using a2).app.1
 obtain ⟨hZ,hB,hP⟩:=plain_ofK hwin (by omega) (fun e1=>by have:=hfin e1;simp only[List.length_append];omega) (sm_plain w hw g hg f hf)
 rw[List.take_left] at hZ
 have hlt:=(beg_not hB).1
 have hwne:0<w.length:=List.length_pos_iff.2 (ti_ne w hw).1
 have hepos:0<e.length:=(show ∀ e∈smPre,0<e.length by decide) e he
 have hgpos:∃ g',g=10 :: g':=by
  unfold smGap at hg
  simp only[List.mem_cons,List.not_mem_nil,or_false] at hg
  rcases hg with rfl|rfl
  ·exact ⟨_,rfl⟩
  ·exact ⟨_,rfl⟩
 obtain ⟨g',rfl⟩:=hgpos
 have hn:noneB s k.n k.bare k.flat p (p+e.length)=false:=by
  unfold noneB
  have ho:overB s (p+e.length)=false:=by
   refine over_in hlt (.inr ?_)
   have hne:=ti_ne w hw
   have h1:=b1.byte 0 hwne
   rw[Nat.add_zero] at h1
   refine ⟨m3_not (.inl (isB_no ?_)),m3_not (.inl (isB_no ?_))⟩
   ·rw[h1];intro e2;exact hne.2.2.1 (UInt8.toNat_inj.1 e2)
   ·rw[h1];intro e2;exact hne.2.2.2 (UInt8.toNat_inj.1 e2)
  have hc:decide ((colF s (p+e.length):Int)≤k.n)=false:=by rw[decide_eq_false_iff_not,hk.1];omega
  rw[ho,hc]
  simp
 obtain ⟨c1,c2,c3⟩:=b2.cons
 have hlf:=row_lfT c1 c2
 have hlb:=last_byte a2 hw
 obtain ⟨S2,hw2⟩:=wNo_is (sm_gap _ hg f hf)
 have hwin2:Pre s (p+e.length+w.length) ((10 :: g')++f.2):=(show Pre s (p+e.length+w.length) (((10 :: g')++f.2)++l) by simpa [List.append_assoc] using b2).app.1
 obtain ⟨L2,hL2,hpass2⟩:=pass_of (fin:=f.1) (by omega) hwin2 (fun e1=>by have:=hfin e1;simp only[List.length_append];omega) hlb.1 hlb.2.1 hw2 (by omega)
 obtain rfl:L2=[]:=List.map_eq_nil_iff.1 hL2
 have hkZ:PlaiZ s ((p+e.length:Nat):Int) k.n false w ((p+e.length+w.length:Nat):Int) true 0:=by rw[hk.1];exact hZ
 have:=nod_plain (blk:=blk) (k:=k) hpass hn hB hP hkZ hlf.1 hlf.2 (.inl rfl) hpass2
 exact ⟨_,rfl,rfl,this⟩
end
end Go.Proofs.YthcmkpiajkbpnaaGreatDoor
