/- Parts of the proof of StreForms, put together from smaller texts (blanks that Lean does not want are struck). Conditions: those that each theorem writes out. -/
import Derived.BigQuiet
import Derived.Deep.AppendLies
import Derived.Deep.AppendSrc
import Derived.Deep.CutBlock
import Derived.Deep.CutRange
import Derived.Deep.DeepCutAuto
import Derived.Deep.DrawnRows
import Derived.Deep.LoopGhost
import Derived.Deep.MidRow
import Derived.Deep.Onto
import Derived.Deep.QuietTactic
import Derived.Deep.RegionHeld3
import Derived.Deep.RegionLaw
import Derived.Deep.RegionWith
import Derived.Deep.Upon
import Derived.Deep.WholeRow
import Derived.Defers
import Derived.Great.BuildSlice
import Derived.KernelRfl
import Derived.Laws.AppendOwnNone
import Derived.Laws.CopyRow
import Derived.Laws.Cover4
import Derived.Laws.Tables
import Derived.Lib.AppendStr
import Derived.Lib.ConvBytes
import Derived.Lib.Hide
import Derived.Lib.Join
import Derived.Lib.LaidU8T
import Derived.Lib.MapLaws
import Derived.Lib.SlTrimSet
import Derived.Lib.TrimAscii
import Derived.Lib.TrimUEq
import Derived.Recover
import Derived.RegionDies
import Derived.Shelf.GgClosure.StringsIndexFunc
import Derived.Shelf.GgClosure.StringsTrimFunc
import Derived.Shelf.LaysC
import Derived.Shelf.LaysM
import Derived.Shelf.Small.Strs
import Derived.Shelf.Small.Utf8
import Derived.Shelf.Small.Wraps
import Derived.Shelf.Strconv.Clone
import Derived.Shelf.Strconv.Itoa0
import Derived.Shelf.Strconv.SyntaxError
import Derived.Shelf.Strconv.ToError
import Derived.Shelf.Strings.AsciiSet
import Derived.Shelf.Strings.Builder1
import Derived.Shelf.Strings.Builder2
import Derived.Shelf.Strings.BuilderF
import Derived.Shelf.Strings.BuilderK
import Derived.Shelf.Strings.BuilderRune
import Derived.Shelf.Strings.Count
import Derived.Shelf.Strings.LastIndex
import Derived.Shelf.Strings.OnBuilder
import Derived.Shelf.Strings.Prefix
import Derived.Shelf.Strings.Runes
import Derived.Shelf.Strings.Search1
import Derived.Shelf.Strings.Search2
import Derived.Shelf.Strings.Search3
import Derived.Shelf.Strings.Shaped
import Derived.Shelf.Strings.SlTrimAscii
import Derived.Shelf.Strings.Split
import Derived.Shelf.Strings.Trim
import Derived.Shelf.Unicode.DecodeAny
import Derived.Shelf.Unicode.DecodeLast
import Derived.Shelf.Unicode.DecodeSlow
import Derived.StillTailTactics
import Derived.Stop.Asserts
import Derived.WalkKit
import Derived.WalkLawsBesides
import Derived.WalkSpells
import Derived.Test.YthcmkpiajkbpnaaGreatDoorEStreForms0
import Derived.Test.YthcmkpiajkbpnaaGreatDoorEStreForms1
import Derived.Test.YthcmkpiajkbpnaaGreatDoorEStreForms2
import Derived.Test.YthcmkpiajkbpnaaGreatDoorEStreForms3
import Derived.Test.YthcmkpiajkbpnaaGreatDoorProg
import Derived.Test.YthcmkpiajkbpnaaGreatDoorRows
import Derived.Test.YthcmkpiajkbpnaaGreatDoorZ00
import Derived.Test.YthcmkpiajkbpnaaGreatDoorZ01
import Derived.Test.YthcmkpiajkbpnaaGreatDoorZ02
import Derived.Test.YthcmkpiajkbpnaaGreatDoorZ03
import Derived.Test.YthcmkpiajkbpnaaGreatDoorZ04
import Derived.Test.YthcmkpiajkbpnaaGreatDoorZ05
import Derived.Test.YthcmkpiajkbpnaaGreatDoorZ06
import Derived.Test.YthcmkpiajkbpnaaGreatDoorZ07
import Derived.Test.YthcmkpiajkbpnaaGreatDoorZ08
import Derived.Test.YthcmkpiajkbpnaaGreatDoorZ09
import Derived.Test.YthcmkpiajkbpnaaGreatDoorZ10
import Derived.Test.YthcmkpiajkbpnaaGreatDoorZ11
import Derived.Test.YthcmkpiajkbpnaaGreatDoorZ12
import Derived.Test.YthcmkpiajkbpnaaGreatDoorZ13
import Derived.Test.YthcmkpiajkbpnaaGreatDoorZ14
import Derived.Test.YthcmkpiajkbpnaaGreatDoorZ15
import Derived.Test.YthcmkpiajkbpnaaGreatDoorZ16
import Derived.Test.YthcmkpiajkbpnaaGreatDoorZ17
import Derived.Test.YthcmkpiajkbpnaaGreatDoorZ18
import Derived.Test.YthcmkpiajkbpnaaGreatDoorZ19
import Derived.Test.YthcmkpiajkbpnaaGreatDoorZ20
import Derived.Test.YthcmkpiajkbpnaaGreatDoorZ21
import Derived.Test.YthcmkpiajkbpnaaGreatDoorZ22
import Derived.Test.YthcmkpiajkbpnaaGreatDoorZ23
import Derived.Test.YthcmkpiajkbpnaaGreatDoorZ24
import Derived.Test.YthcmkpiajkbpnaaGreatDoorZ25
import Derived.Test.YthcmkpiajkbpnaaGreatDoorZ26
import Derived.Test.YthcmkpiajkbpnaaGreatDoorZ27
import Derived.Test.YthcmkpiajkbpnaaGreatDoorZ28
import Derived.Test.YthcmkpiajkbpnaaGreatDoorZ29
import Derived.Test.YthcmkpiajkbpnaaGreatDoorZ30
import Derived.Test.YthcmkpiajkbpnaaGreatDoorZ31
import Derived.Test.YthcmkpiajkbpnaaGreatDoorZ32
import Derived.Test.YthcmkpiajkbpnaaGreatDoorZ33
import Derived.Test.YthcmkpiajkbpnaaGreatDoorZ34
import Derived.Test.YthcmkpiajkbpnaaGreatDoorZ35
import Derived.Test.YthcmkpiajkbpnaaGreatDoorZ36
import Derived.Test.YthcmkpiajkbpnaaGreatDoorZ37
import Derived.Test.YthcmkpiajkbpnaaGreatDoorZ38
import Derived.Test.YthcmkpiajkbpnaaGreatDoorZ39
import Derived.Test.YthcmkpiajkbpnaaGreatDoorZ40
import Derived.Test.YthcmkpiajkbpnaaGreatDoorZ41
import Derived.Test.YthcmkpiajkbpnaaGreatDoorZ42
namespace Go.Proofs.YthcmkpiajkbpnaaGreatDoor
open Go.RowKit
def rbX (s:ByteArray) (a:Nat):Nat:=fndB s.size fun r=>decide (RowB s a r)
def ntX (s:ByteArray) (p:Nat):Option (Coms × Bool × Nat × Int):=
 if RowB s (min p s.size) (rbX s (min p s.size)) then nF s false 0 (min p s.size) (!(decide (min p s.size=rbX s (min p s.size)))) (3*s.size+3) (min p s.size) (decide (min p s.size=rbX s (min p s.size))) true [] false else none
theorem ntX_is {s:ByteArray} {p:Nat} {L:Coms} {S:Bool} {E:Nat} {C:Int} (h:ntX s p=some (L,S,E,C)):NoteZ s false 0 (p:Int) L S (E:Int) C:=by
 unfold ntX at h
 split at h
 ·rename_i h0
  have hc:clampN (p:Int) s.size=min p s.size:=by unfold clampN;omega
  refine ⟨_,E,by rw[hc];exact h0,rfl,?_⟩
  rw[hc]
  exact nF_sound _ _ _ _ _ _ _ _ _ _ _ _ _ _ _ h
 ·cases h
def pasX (s:ByteArray) (p:Nat):Option (Rd (Coms × Bool × Nat)):=match ntX s p with
 | some (L,S,E,C)=>some (if C=0 then .ok (L,S,E) else .bad E C)
 | none=>none
theorem pasX_is {s:ByteArray} {p:Nat} {o:Rd (Coms × Bool × Nat)} (h:pasX s p=some o):passR s p o∧∀ q c,o=.bad q c→c≠0:=by
 unfold pasX at h
 split at h
 ·rename_i L S E C hn
  injection h with h
  subst h
  refine ⟨⟨L,S,E,C,ntX_is hn,rfl⟩,fun q c e=>?_⟩
  split at e
  ·cases e
  ·injection e with e1 e2
   rw[←e2];assumption
 ·cases h
def bgnX (s:ByteArray) (q:Nat):Option Nat:=if RowB s q (rbX s q)∧q≤s.size then some (bgnN s q (kindN s (rbX s q) (rowX s q) (firX s (rbX s q) (rowX s q))) (q-rbX s q)) else none
theorem bgnX_is {s:ByteArray} {q k:Nat} (h:bgnX s q=some k):bgnR s q k∧q≤s.size:=by
 unfold bgnX at h
 split at h
 ·rename_i h0
  injection h with h
  have hr:=rowX_is h0.2
  exact ⟨⟨_,_,_,h0.1,hr,firX_is (Nat.le_trans h0.1.1 hr.1),h.symm⟩,h0.2⟩
 ·cases h
def strX (s:ByteArray):Nat→Nat→Coms→List (List UInt8)→List DT→Option (List DT × Coms × Int × Int)
 | 0,_,_,_,_=>none
 | g+1,p,H,ds,xs=>match pasX s p with
  | none=>none
  | some (.bad q c)=>some ([],[],(q:Int),c)
  | some (.ok (L,_,q))=>match bgnX s q with
   | none=>none
   | some k=>
    if ds≠[]∧k≠2∧k≠3 then some ([],[],(q:Int),5)
    else if k=2 then (match U.tRead (pieceL s q (rowX s q)) with
     | (d,cm,has,c)=>if c≠0 then some ([],[],(q:Int),c) else if U.tTwice ds d=true then some ([],[],(q:Int),5) else strX s g (rowX s q+1) (H++L++if has=true then [(cm,0)] else []) (ds++[d]) xs)
    else if k=3 then (match treeX s ((q+3:Nat):Int) true with
     | none=>none
     | some o=>match treeA s o with
      | (some x,F,e,0)=>if 0≤e then strX s g e.toNat [] [] (xs++[⟨H++L,ds,true,x,F⟩]) else none
      | (_,_,e,c)=>if c≠0 then some ([],[],e,c) else none)
    else if k=0 then some (xs,H++L,0,0)
    else if k=1 then (match ntX (cutB s (rowX s q)) (q+3) with
     | none=>none
     | some (L2,_,q2,_)=>if q2=rowX s q then strX s g (rowX s q+1) (H++L++L2) [] xs else if q2<rowX s q then some ([],[],(q2:Int),5) else none)
    else if k=4 then (match treeX s ((p:Nat):Int) false with
     | none=>none
     | some o=>match treeA s o with
      | (some x,F,e,0)=>if 0≤e then strX s g e.toNat [] [] (xs++[⟨H,[],false,x,F⟩]) else none
      | (_,_,e,c)=>if c≠0 then some ([],[],e,c) else none)
    else none
theorem strX_is {s:ByteArray} {D:List DT} {T:Coms} {E C:Int}:∀ (g p:Nat) (H:Coms) (ds:List (List UInt8)) (xs:List DT),strX s g p H ds xs=some (D,T,E,C)→SZ s D T E C g p H ds xs:=by
 intro g
 induction g with
 | zero=>intro p H ds xs h;cases h
 | succ g ih=>
  intro p H ds xs h
  unfold strX at h
  split at h
  ·cases h
  ·rename_i q c hp
   obtain ⟨hp,hc⟩:=pasX_is hp
   cases h
   exact .skipX hp (hc _ _ rfl) rfl rfl rfl rfl
  ·rename_i L S q hp
   have hp:=(pasX_is hp).1
   split at h
   ·cases h
   ·rename_i k hk
    obtain ⟨hk,hq⟩:=bgnX_is hk
    have hr:=rowX_is hq
    split at h
    ·rename_i h0
     cases h
     exact .lacks hp h0.1 hk h0.2.1 h0.2.2 rfl rfl rfl rfl
    ·rename_i h0
     split at h
     ·rename_i h2
      subst h2
      split at h
      rename_i d cm has c hd
      split at h
      ·rename_i hc
       cases h
       exact .dirX hp hk hr hd hc rfl rfl rfl rfl
      ·rename_i hc
       have hc:c=0:=by simpa using hc
       subst hc
       split at h
       ·rename_i ht
        cases h
        exact .dirTwo hp hk hr hd ht rfl rfl rfl rfl
       ·rename_i ht
        exact .dir hp hk hr hd (by simpa using ht) (ih _ _ _ _ h)
     ·rename_i h2
      split at h
      ·rename_i h3
       subst h3
       split at h
       ·cases h
       ·rename_i o ho
        have hZ:=treeX_is ho
        split at h
        ·rename_i x F e hA
         rw[hA] at hZ
         split at h
         ·rename_i he
          obtain ⟨e',rfl⟩:=Int.eq_ofNat_of_zero_le he
          exact .mark hp hk hZ (ih _ _ _ _ h)
         ·cases h
        ·rename_i y F e c _ hA
         rw[hA] at hZ
         split at h
         ·rename_i hc
          cases h
          exact .markX hp hk hZ hc rfl rfl rfl rfl
         ·cases h
      ·rename_i h3
       have hd:ds=[]:=Decidable.byContradiction fun e=>h0 ⟨e,h2,h3⟩
       subst hd
       split at h
       ·rename_i h4
        subst h4
        cases h
        exact .over hp hk rfl rfl rfl rfl
       ·split at h
        ·rename_i h5
         subst h5
         split at h
         ·cases h
         ·rename_i L2 S2 q2 c2 hn
          have hn:=ntX_is hn
          split at h
          ·rename_i he
           subst he
           exact .dots hp hk hr hn (ih _ _ _ _ h)
          ·split at h
           ·rename_i hlt
            cases h
            exact .dotsX hp hk hr hn hlt rfl rfl rfl rfl
           ·cases h
        ·split at h
         ·rename_i h6
          subst h6
          split at h
          ·cases h
          ·rename_i o ho
           have hZ:=treeX_is ho
           split at h
           ·rename_i x F e hA
            rw[hA] at hZ
            split at h
            ·rename_i he
             obtain ⟨e',rfl⟩:=Int.eq_ofNat_of_zero_le he
             exact .bare hp hk hZ (ih _ _ _ _ h)
            ·cases h
           ·rename_i y F e c _ hA
            rw[hA] at hZ
            split at h
            ·rename_i hc
             cases h
             exact .bareX hp hk hZ hc rfl rfl rfl rfl
            ·cases h
         ·cases h
def strA (s:ByteArray) (P:List DT→Coms→Int→Int→Bool):Bool:=match strX s 9 0 [] [] [] with
 | some (D,T,E,C)=>P D T E C
 | none=>false
theorem strA_is {s:ByteArray} {P:List DT→Coms→Int→Int→Bool} (h:strA s P=true):∃ D T E C,P D T E C=true∧StreZ s D T E C:=by
 unfold strA at h
 split at h
 ·rename_i D T E C hs
  exact ⟨D,T,E,C,h,9,by decide,strX_is _ _ _ _ _ hs⟩
 ·cases h
theorem awake18_a:∃ D T E C,(match D with | [d]=>decide (d.root.h.text=[97])&&(decide (T.map (·.1)=[[32,99]])&&decide (E=0∧C=0))|_=>false)=true∧StreZ ⟨#[97,10,46,46,46,10,35,32,99,10]⟩ D T E C:=strA_is (P:=fun D T E C=>match D with | [d]=>decide (d.root.h.text=[97])&&(decide (T.map (·.1)=[[32,99]])&&decide (E=0∧C=0))|_=>false) (by decide +kernel)
theorem awake18_b:∃ D T E C,decide (D.length=0∧T.length=0∧E=10∧C=5)=true∧StreZ ⟨#[37,89,65,77,76,32,49,46,50,10,97]⟩ D T E C:=strA_is (P:=fun D T E C=>decide (D.length=0∧T.length=0∧E=10∧C=5)) (by decide +kernel)
def sfL:List (List UInt8):=[[],[35,32,97,10],[45,45,45],[45,45,45,10,45,45,45],[97,10,45,45,45,10,98],[97,10,46,46,46,10,98],[46,46,46],[37,70,79,79,10,45,45,45,10],[45,45,45,32,124,10,32,120,10,46,46,46,10],[97,10,37,98],[37,70,79,79,10],[37,70,79,79,10,97],[97,10,37,70,79,79,10,45,45,45],[46,46,46,32,97],[46,46,46,35],[45,45,45,32,97,10,98],[97,10,46,46,46,32,98],[37,84,65,71,32,33,32,120,10,37,84,65,71,32,33,32,121,10,45,45,45],[37,89,65,77,76,32,49,46,50,10,37,89,65,77,76,32,49,46,50,10,45,45,45],[97,58,32,98,10,45,45,45,120],[45,45,45,9,97,10],[45,45,45,32,45,32,97],[45,45,45,32,97,58,32,98],[37,89,65,77,76,32,49,46,51,10,46,46,46,10]]
def sfN:List Int:=[0,0,1,2,2,2,0,1,1,1,-1,-1,2,-1,1,1,-1,-1,-1,-1,1,-1,-1,-1]
def sfP (k:Nat) (D:List DT) (T:Coms) (C:Int):Bool:=if sfN.getD k 0<0 then decide (C=5∧D.length=0∧T.length=0) else decide (C=0∧(D.length:Int)=sfN.getD k 0)
theorem sf_all:∀ k∈[0,1,2,3,4,5,6,7,8,9,10,11,12,13,14,15,16,17,18,19,20,21,22,23],strA ⟨(sfL.getD k []).toArray⟩ (fun D T _ C=>sfP k D T C)=true:=by decide +kernel
end Go.Proofs.YthcmkpiajkbpnaaGreatDoor
namespace Go.Proofs.YthcmkpiajkbpnaaGreatDoor
open Go.RowKit
attribute [local go_sem ↓] Go.wp_at_zero Go.wp_at_succ
theorem IsD.cells {R:Nat→Prop} {w:World} {d:DT} {cs:List Value} (h:IsD R w d cs):∃ (dv:Value),cs[1]?=some dv∧cs[2]?=some (.bool d.mark)∧cs[3]?=some (.int .i64 d.root.h.kind)∧cs[9]?=some (.string ⟨d.root.h.text.toArray⟩)∧TxtR R w dv d.dirs:=by
 obtain ⟨hv,dv,rc,fv,rfl,h1,h2,h3,h4⟩:=h
 obtain ⟨ka,la,fa,rfl,_⟩:=h3.open
 exact ⟨dv,rfl,rfl,rfl,rfl,h2⟩
set_option maxRecDepth 100000 in
set_option maxHeartbeats 6400000 in
theorem awake18_true {Ev:World→Prop} {P:ByteArray→Prop} (K:StreC Ev P) (w:World) (hE:Ev w):Calls Tryz.prog 12 #[] w fun e w'=>e=.returned (.bool true)∧Below w.heap.size w w':=by
 obtain ⟨D,T,E,C,hq,hZ⟩:=awake18_a
 obtain ⟨d,c,rfl,rfl,rfl,rfl,hdt,hct⟩:∃ d c,D=[d]∧T=[c]∧E=0∧C=0∧d.root.h.text=[97]∧c.1=[32,99]:=by
  split at hq
  ·rename_i d
   rw[Bool.and_eq_true,Bool.and_eq_true,decide_eq_true_eq,decide_eq_true_eq,decide_eq_true_eq] at hq
   obtain ⟨h1,h2,h3,h4⟩:=hq
   cases T with
   | nil=>cases h2
   | cons c T=>
    cases T with
    | nil=>
     simp only[List.map_cons,List.map_nil,List.cons.injEq,and_true] at h2
     exact ⟨d,c,rfl,rfl,h3,h4,h1,h2⟩
    | cons c2 T=>simp at h2
  ·cases hq
 obtain ⟨D2,T2,E2,C2,hq2,hZ2⟩:=awake18_b
 rw[decide_eq_true_eq] at hq2
 obtain ⟨hd2,ht2,rfl,rfl⟩:=hq2
 go_enter Tryz.func12,Tryz.ntmps12
 go_wp2_with fail
 refine (K.parse _ _ _ _ ⟨#[97,10,46,46,46,10,35,32,99,10]⟩ _ (by decide) (K.smp _ rfl) hE hZ).mono ?_
 rintro e w1 ⟨kv,tv,rfl,hD,hT,b1⟩
 obtain ⟨ka,kc,rfl,_,_,hk⟩:=hD
 obtain ⟨ta,tc,rfl,_,_,ht⟩:=hT
 obtain ⟨kb,ko,rfl,hkb,hk⟩:=hk Nat.one_pos
 obtain ⟨tb,tq,rfl,htb,ht⟩:=ht Nat.one_pos
 obtain ⟨cs,hcs,hd⟩:=hk 0 Nat.one_pos
 obtain ⟨dv,_,_,_,c9,_⟩:=hd.cells
 have hkb:kb<w1.heap.size:=hkb
 have htb:tb<w1.heap.size:=htb
 have k9:w1.cell? ⟨kb,ko+9,none⟩=some (.string ⟨#[97]⟩):=by
  have h:=hcs 9 (by decide)
  rw[c9] at h
  have hdt:([d][0]).root.h.text=[97]:=hdt
  rw[hdt] at h
  simpa using h
 have t0:w1.cell? ⟨tb,tq,none⟩=some (.string ⟨#[32,99]⟩):=by
  have h:=(ht 0 Nat.one_pos).1
  have hc:comT [c] 0=[32,99]:=hct
  rw[hc] at h
  simpa using h
 clear hk ht hcs hd c9 hZ
 have hE1:=K.keep _ _ hE b1
 go_wp2_with fail
 obtain ⟨WX,hWX⟩:∃ WX:World,WX=w1.alloc (.cells #[.slice (some ⟨kb,ko,none⟩) 1 kc,.slice (some ⟨tb,tq,none⟩) 1 tc] 42):=⟨_,rfl⟩
 have bX:Below w1.heap.size w1 WX:=by rw[hWX];exact (Below.refl _ _).alloc (Nat.le_refl _) _
 have rX:WX.heap[w1.heap.size]?=some (.cells #[.slice (some ⟨kb,ko,none⟩) 1 kc,.slice (some ⟨tb,tq,none⟩) 1 tc] 42 (0,0)):=by rw[hWX];exact heap_alloc_new w1 _
 have zX:w1.heap.size<WX.heap.size:=by rw[hWX];simp
 rw[←hWX]
 clear hWX
 refine (K.parse _ _ _ _ ⟨#[37,89,65,77,76,32,49,46,50,10,97]⟩ _ (by decide) (K.smp _ rfl) (K.keep _ _ hE1 bX) hZ2).mono ?_
 rintro e w2 ⟨kv2,tv2,rfl,hD2,hT2,b2⟩
 obtain ⟨ka2,kc2,rfl,_⟩:=hD2
 obtain ⟨ta2,tc2,rfl,_⟩:=hT2
 have bT:Below w.heap.size w w2:=(b1.trans (bX.mono b1.size)).trans (b2.mono (Nat.le_trans b1.size bX.size))
 have qX:=fun j=>cell_of_row w2 _ j _ _ _ ((b2.block w1.heap.size zX).trans rX)
 have q9:=(b2.cell (p:=⟨kb,ko+9,none⟩) (by show kb<_;omega)).trans ((bX.cell (p:=⟨kb,ko+9,none⟩) hkb).trans k9)
 have q0:=(b2.cell (p:=⟨tb,tq,none⟩) (by show tb<_;omega)).trans ((bX.cell (p:=⟨tb,tq,none⟩) htb).trans t0)
 have n1:w1.heap.size<w2.heap.size:=Nat.lt_of_lt_of_le zX b2.size
 have n2:kb<w2.heap.size:=by omega
 have n3:tb<w2.heap.size:=by omega
 clear rX b1 bX b2 k9 t0 hE1 hZ2
 go_wp2
 go_ret
 exact ⟨rfl,bT.alloc bT.size _⟩
end Go.Proofs.YthcmkpiajkbpnaaGreatDoor
namespace Go.Proofs.YthcmkpiajkbpnaaGreatDoor
open Go.RowKit
theorem firstIs:Rows.laid_unicode_utf8_first=Lib.firstData:=by kernel_rfl
theorem acceptIs:(Rows.laid_unicode_utf8_acceptRanges:DataW Unit)=Lib.acceptData:=by kernel_rfl
theorem tabsE_of (L : List (String × DataW Unit)) (W : World) (hL : laidMet Tryz.prog L W) (h1 : ("unicode/utf8.acceptRanges", Rows.laid_unicode_utf8_acceptRanges) ∈ L) (h2 : ("unicode/utf8.first", Rows.laid_unicode_utf8_first) ∈ L) : TabsE W := by
 rw[acceptIs] at h1
 rw[firstIs] at h2
 exact utf8Tabs_of_readsT (ρ:=Tryz.lays238_ren) { Tryz.lays238 with } ⟨by kernel_rfl,by kernel_rfl,by kernel_rfl,by kernel_rfl,by kernel_rfl,by kernel_rfl,by kernel_rfl⟩ (Lib.laidMet.reads hL h2) (Lib.laidMet.reads hL h1)
end Go.Proofs.YthcmkpiajkbpnaaGreatDoor
namespace Go.Proofs.YthcmkpiajkbpnaaGreatDoor
open Go.RowKit
attribute [local go_sem ↓] Go.wp_at_zero Go.wp_at_succ
def sfA:Array Value:=#[.string ⟨#[]⟩,.string ⟨#[35,32,97,10]⟩,.string ⟨#[45,45,45]⟩,.string ⟨#[45,45,45,10,45,45,45]⟩,.string ⟨#[97,10,45,45,45,10,98]⟩,.string ⟨#[97,10,46,46,46,10,98]⟩,.string ⟨#[46,46,46]⟩,.string ⟨#[37,70,79,79,10,45,45,45,10]⟩,.string ⟨#[45,45,45,32,124,10,32,120,10,46,46,46,10]⟩,.string ⟨#[97,10,37,98]⟩,.string ⟨#[37,70,79,79,10]⟩,.string ⟨#[37,70,79,79,10,97]⟩,.string ⟨#[97,10,37,70,79,79,10,45,45,45]⟩,.string ⟨#[46,46,46,32,97]⟩,.string ⟨#[46,46,46,35]⟩,.string ⟨#[45,45,45,32,97,10,98]⟩,.string ⟨#[97,10,46,46,46,32,98]⟩,.string ⟨#[37,84,65,71,32,33,32,120,10,37,84,65,71,32,33,32,121,10,45,45,45]⟩,.string ⟨#[37,89,65,77,76,32,49,46,50,10,37,89,65,77,76,32,49,46,50,10,45,45,45]⟩,.string ⟨#[97,58,32,98,10,45,45,45,120]⟩,.string ⟨#[45,45,45,9,97,10]⟩,.string ⟨#[45,45,45,32,45,32,97]⟩,.string ⟨#[45,45,45,32,97,58,32,98]⟩,.string ⟨#[37,89,65,77,76,32,49,46,51,10,46,46,46,10]⟩]
def sfB:Array Value:=#[.int .i64 0,.int .i64 0,.int .i64 1,.int .i64 2,.int .i64 2,.int .i64 2,.int .i64 0,.int .i64 1,.int .i64 1,.int .i64 1,.int .i64 (-1),.int .i64 (-1),.int .i64 2,.int .i64 (-1),.int .i64 1,.int .i64 1,.int .i64 (-1),.int .i64 (-1),.int .i64 (-1),.int .i64 (-1),.int .i64 1,.int .i64 (-1),.int .i64 (-1),.int .i64 (-1)]
theorem sf_mem (k:Nat) (hk:k<24):k∈[0,1,2,3,4,5,6,7,8,9,10,11,12,13,14,15,16,17,18,19,20,21,22,23]:=(by decide:∀ k:Fin 24,k.val∈[0,1,2,3,4,5,6,7,8,9,10,11,12,13,14,15,16,17,18,19,20,21,22,23]) ⟨k,hk⟩
theorem sf_k (k:Nat) (hk:k<24):strA ⟨(sfL.getD k []).toArray⟩ (fun D T _ C=>sfP k D T C)=true:=sf_all k (sf_mem k hk)
theorem sf_smb (k:Nat) (hk:k<24):Smb ⟨(sfL.getD k []).toArray⟩:=by
 have h:∀ k∈[0,1,2,3,4,5,6,7,8,9,10,11,12,13,14,15,16,17,18,19,20,21,22,23],(sfL.getD k []).all smbU=true:=by decide +kernel
 exact h k (sf_mem k hk)
theorem sfA_get (k:Nat) (hk:k<24):sfA[k]?=some (.string ⟨(sfL.getD k []).toArray⟩):=by
 have:k=0∨k=1∨k=2∨k=3∨k=4∨k=5∨k=6∨k=7∨k=8∨k=9∨k=10∨k=11∨k=12∨k=13∨k=14∨k=15∨k=16∨k=17∨k=18∨k=19∨k=20∨k=21∨k=22∨k=23:=by omega
 rcases this with rfl|rfl|rfl|rfl|rfl|rfl|rfl|rfl|rfl|rfl|rfl|rfl|rfl|rfl|rfl|rfl|rfl|rfl|rfl|rfl|rfl|rfl|rfl|rfl <;> rfl
theorem sfB_get (k:Nat) (hk:k<24):sfB[k]?=some (.int .i64 (sfN.getD k 0)):=by
 have:k=0∨k=1∨k=2∨k=3∨k=4∨k=5∨k=6∨k=7∨k=8∨k=9∨k=10∨k=11∨k=12∨k=13∨k=14∨k=15∨k=16∨k=17∨k=18∨k=19∨k=20∨k=21∨k=22∨k=23:=by omega
 rcases this with rfl|rfl|rfl|rfl|rfl|rfl|rfl|rfl|rfl|rfl|rfl|rfl|rfl|rfl|rfl|rfl|rfl|rfl|rfl|rfl|rfl|rfl|rfl|rfl <;> rfl
set_option maxRecDepth 100000 in
set_option maxHeartbeats 6400000 in
theorem StreForms_walk {Ev:World→Prop} {P:ByteArray→Prop} (K:StreC Ev P) (hP:∀ k,k<24→P ⟨(sfL.getD k []).toArray⟩) (which:Int) (w:World) (hE:Ev w) :
  Calls Tryz.prog 6 #[.int .i64 which] w fun e w'=>e=.returned (.bool true)∧Below w.heap.size w w':=by
 have hr:=lowZ_range which 24 (by omega)
 obtain ⟨k,hk⟩:∃ k:Nat,lowZ which 24=(k:Int):=⟨(lowZ which 24).toNat,by omega⟩
 rw[hk] at hr
 have hk24:k<24:=by omega
 have hk1:(k:Int)<24:=by omega
 have hk0:(0:Int)≤(k:Int):=by omega
 obtain ⟨D,T,E,C,hq,hZ⟩:=strA_is (sf_k k hk24)
 have hPk:=hP k hk24
 have hsz:(⟨(sfL.getD k []).toArray⟩:ByteArray).size≤10000:=by
  have:∀ k:Fin 24,(sfL.getD k.val []).length≤10000:=by decide
  have:=this ⟨k,hk24⟩
  simpa [ByteArray.size] using this
 obtain ⟨S,hS⟩:∃ S:ByteArray,S=⟨(sfL.getD k []).toArray⟩:=⟨_,rfl⟩
 obtain ⟨m,hm⟩:∃ m,m=sfN.getD k 0:=⟨_,rfl⟩
 unfold sfP at hq
 rw[←hm] at hq
 have HM:=Lib.hid hm
 clear hm
 rw[←hS] at hZ hPk hsz
 go_enter Tryz.func6,Tryz.ntmps6
 go_upto_region 3 with fail
 obtain ⟨W2,hW2⟩:∃ W2:World,W2=(w.alloc (.cells #[.string ⟨#[]⟩,.string ⟨#[35,32,97,10]⟩,.string ⟨#[45,45,45]⟩,.string ⟨#[45,45,45,10,45,45,45]⟩,.string ⟨#[97,10,45,45,45,10,98]⟩,.string ⟨#[97,10,46,46,46,10,98]⟩,.string ⟨#[46,46,46]⟩,.string ⟨#[37,70,79,79,10,45,45,45,10]⟩,.string ⟨#[45,45,45,32,124,10,32,120,10,46,46,46,10]⟩,.string ⟨#[97,10,37,98]⟩,.string ⟨#[37,70,79,79,10]⟩,.string ⟨#[37,70,79,79,10,97]⟩,.string ⟨#[97,10,37,70,79,79,10,45,45,45]⟩,.string ⟨#[46,46,46,32,97]⟩,.string ⟨#[46,46,46,35]⟩,.string ⟨#[45,45,45,32,97,10,98]⟩,.string ⟨#[97,10,46,46,46,32,98]⟩,.string ⟨#[37,84,65,71,32,33,32,120,10,37,84,65,71,32,33,32,121,10,45,45,45]⟩,.string ⟨#[37,89,65,77,76,32,49,46,50,10,37,89,65,77,76,32,49,46,50,10,45,45,45]⟩,.string ⟨#[97,58,32,98,10,45,45,45,120]⟩,.string ⟨#[45,45,45,9,97,10]⟩,.string ⟨#[45,45,45,32,45,32,97]⟩,.string ⟨#[45,45,45,32,97,58,32,98]⟩,.string ⟨#[37,89,65,77,76,32,49,46,51,10,46,46,46,10]⟩] 9)).alloc (.cells #[.int .i64 0,.int .i64 0,.int .i64 1,.int .i64 2,.int .i64 2,.int .i64 2,.int .i64 0,.int .i64 1,.int .i64 1,.int .i64 1,.int .i64 (-1),.int .i64 (-1),.int .i64 2,.int .i64 (-1),.int .i64 1,.int .i64 1,.int .i64 (-1),.int .i64 (-1),.int .i64 (-1),.int .i64 (-1),.int .i64 1,.int .i64 (-1),.int .i64 (-1),.int .i64 (-1)] 3):=⟨_,rfl⟩
 rw[←hW2]
 have b2:Below w.heap.size w W2:=by rw[hW2];exact ((Below.refl _ _).alloc (Nat.le_refl _) _).alloc (by simp) _
 have z2:w.heap.size+1<W2.heap.size:=by rw[hW2];simp
 have rA:W2.heap[w.heap.size]?=some (.cells sfA 9 (0,0)):=by rw[hW2];exact (heap_alloc_old _ _ (by simp)).trans (heap_alloc_new w _)
 have rB:W2.heap[w.heap.size+1]?=some (.cells sfB 3 (0,0)):=by
  rw[hW2]
  have:=heap_alloc_new (w.alloc (.cells sfA 9)) (.cells sfB 3)
  rw[show (w.alloc (.cells sfA 9)).heap.size=w.heap.size+1 by simp] at this
  exact this
 have qA:W2.cell? ⟨w.heap.size,k,none⟩=some (.string S):=(cell_of_row W2 _ k _ _ _ rA).trans (by rw[hS];exact sfA_get k hk24)
 have qB:W2.cell? ⟨w.heap.size+1,k,none⟩=some (.int .i64 m):=(cell_of_row W2 _ k _ _ _ rB).trans (by rw[HM.out];exact sfB_get k hk24)
 have hE2:=K.keep _ _ hE b2
 have CP:=K.parse D T E C S W2 hsz hPk hE2 hZ
 clear hW2 rA rB hS
 go_wp2_with fail
 refine (Low_is (k:Int) _ 24 _ (by omega) (by omega) hk).mono ?_
 rintro e w1 ⟨rfl,rfl⟩
 go_wp2_with fail
 refine CP.mono ?_
 rintro e w5 ⟨kv,tv,rfl,hD,hT,b5⟩
 obtain ⟨ka,kc,rfl,_,_,_⟩:=hD
 obtain ⟨ta,tc,rfl,_,_,_⟩:=hT
 have b6:=b2.trans (b5.mono b2.size)
 have z5:w.heap.size+1<w5.heap.size:=Nat.lt_of_lt_of_le z2 b5.size
 have q5:=(b5.cell (p:=⟨w.heap.size+1,k,none⟩) z2).trans qB
 obtain ⟨WX,hWX⟩:∃ WX:World,WX=w5.alloc (.cells #[.slice ka D.length kc,.slice ta T.length tc] 42):=⟨_,rfl⟩
 have bX:Below w5.heap.size w5 WX:=by rw[hWX];exact (Below.refl _ _).alloc (Nat.le_refl _) _
 have rX:WX.heap[w5.heap.size]?=some (.cells #[.slice ka D.length kc,.slice ta T.length tc] 42 (0,0)):=by rw[hWX];exact heap_alloc_new w5 _
 have zX:w5.heap.size<WX.heap.size:=by rw[hWX];simp
 clear CP
 go_upto_region 5 with fail
 rw[←hWX]
 have x0:WX.cell? ⟨w5.heap.size,0,none⟩=some (.slice ka D.length kc):=cell_of_row WX _ 0 _ _ _ rX
 have x1:WX.cell? ⟨w5.heap.size,1,none⟩=some (.slice ta T.length tc):=cell_of_row WX _ 1 _ _ _ rX
 have xB:=(bX.cell (p:=⟨w.heap.size+1,k,none⟩) z5).trans q5
 have bW:=b6.trans (bX.mono b6.size)
 have hEX:=K.keep _ _ hE bW
 clear hWX rX qA qB q5
 by_cases hm0:m<0
 ·rw[if_pos hm0,decide_eq_true_eq] at hq
  obtain ⟨rfl,hd,ht⟩:=hq
  rw[hd] at x0
  rw[ht] at x1
  go_wp2_with fail
  refine (awake18_true K _ hEX).mono ?_
  rintro e w9 ⟨rfl,b9⟩
  go_wp2
  go_ret
  exact ⟨rfl,bW.trans (b9.mono bW.size)⟩
 ·rw[if_neg hm0,decide_eq_true_eq] at hq
  obtain ⟨rfl,hd⟩:=hq
  have hAW:∀ W:World,(W.cell? ⟨w5.heap.size,0,none⟩=some (.slice ka D.length kc)∧W.cell? ⟨w.heap.size+1,k,none⟩=some (.int .i64 m)∧w5.heap.size<W.heap.size∧Below w.heap.size w W)→Calls Tryz.prog 12 #[] W fun e w'=>e=.returned (.bool true)∧(w'.cell? ⟨w5.heap.size,0,none⟩=some (.slice ka D.length kc)∧w'.cell? ⟨w.heap.size+1,k,none⟩=some (.int .i64 m)∧w5.heap.size<w'.heap.size∧Below w.heap.size w w'):=fun W hS=>(awake18_true K W (K.keep _ _ hE hS.2.2.2)).mono fun e w' h=>⟨h.1,(h.2.cell (p:=⟨w5.heap.size,0,none⟩) hS.2.2.1).trans hS.1,(h.2.cell (p:=⟨w.heap.size+1,k,none⟩) (show w.heap.size+1<_ by have:=hS.2.2.1;omega)).trans hS.2.1,Nat.lt_of_lt_of_le hS.2.2.1 h.2.size,hS.2.2.2.trans (h.2.mono hS.2.2.2.size)⟩
  have hs0:WX.drew.cell? ⟨w5.heap.size,0,none⟩=some (.slice ka D.length kc)∧WX.drew.cell? ⟨w.heap.size+1,k,none⟩=some (.int .i64 m)∧w5.heap.size<WX.drew.heap.size∧Below w.heap.size w WX.drew:=⟨by simpa using x0,by simpa using xB,by simpa using zX,Go.below_drewN bW 1⟩
  go_upto_region 7 with fail
  go_region_held3 (fun w'=>w'.cell? ⟨w5.heap.size,0,none⟩=some (.slice ka D.length kc)∧w'.cell? ⟨w.heap.size+1,k,none⟩=some (.int .i64 m)∧w5.heap.size<w'.heap.size∧Below w.heap.size w w') (first|(with_reducible assumption)|(with_reducible exact hs0))
   (first|(go_at_call 12;refine (hAW _ (by with_reducible assumption)).mono ?_;rintro e w6 ⟨rfl,hS6⟩))
  go_wp2
  go_ret
  exact ⟨rfl,hS6.2.2.2⟩
end Go.Proofs.YthcmkpiajkbpnaaGreatDoor
