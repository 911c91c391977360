/- Parts of the proof of FlowRows, put together from smaller texts (blanks that Lean does not want are struck). Conditions: those that each theorem writes out. -/
import Derived.Laws.Cover4
import Derived.Lib.MapLaws
import Derived.Shelf.LaysC
import Derived.Shelf.LaysM
import Derived.Shelf.Small.Strs
import Derived.Shelf.Small.Utf8
import Derived.Shelf.Strconv.Clone
import Derived.Shelf.Strconv.SyntaxError
import Derived.Shelf.Strconv.ToError
import Derived.Shelf.Strings.AsciiSet
import Derived.Shelf.Strings.Builder1
import Derived.Shelf.Strings.BuilderF
import Derived.Shelf.Strings.BuilderK
import Derived.Shelf.Strings.BuilderRune
import Derived.Shelf.Strings.LastIndex
import Derived.Shelf.Strings.Prefix
import Derived.Shelf.Strings.Runes
import Derived.Shelf.Strings.Search1
import Derived.Shelf.Strings.Search2
import Derived.Shelf.Strings.Search3
import Derived.Shelf.Strings.Shaped
import Derived.Shelf.Strings.Trim
import Derived.Shelf.Unicode.DecodeSlow
import Derived.Test.YtncngeamdechmaaGreatDoorEFlowRows0
import Derived.Test.YtncngeamdechmaaGreatDoorEFlowRows1
import Derived.Test.YtncngeamdechmaaGreatDoorProg
import Derived.Test.YtncngeamdechmaaGreatDoorZ00
import Derived.Test.YtncngeamdechmaaGreatDoorZ01
import Derived.Test.YtncngeamdechmaaGreatDoorZ02
import Derived.Test.YtncngeamdechmaaGreatDoorZ05
import Derived.Test.YtncngeamdechmaaGreatDoorZ08
import Derived.Test.YtncngeamdechmaaGreatDoorZ15
namespace Go.Proofs.YtncngeamdechmaaGreatDoor
open Go.RowKit
def sepL:List (List UInt8):=[[32],[10,32,32],[32,35,32,99,10,32],[10,10,9,32,10,32,32,32],[10,35,100,10,32,32]]
def tokL:List (List UInt8):=wordL++[[91],[93],[44],[123],[125],[107],[58,32],[118],[39,119,39],[58],[63],[112],[34,113,34]]
theorem sep_betw:∀ sep∈sepL,∀ u∈tokL,∀ pre∈[[],[(32:UInt8)]],(betwF 0 (pre++(sep++u)) false).map (·.2.2)=some (pre.length+sep.length):=by decide +kernel
theorem sep_plain:∀ wd∈wordL++[[107],[118],[112]],∀ sep∈sepL,∀ u∈[[(44:UInt8)],[58,32]],plainF (wd++(sep++u))=some wd.length:=by decide +kernel
theorem sep_next:∀ sep∈sepL,(match (sep++[44]).dropWhile wsp with | []=>false|y :: _=>decide (y≠58))=true:=by decide +kernel
theorem tok_last:∀ t∈tokL,t≠[58,32]→t≠[]∧t.getD (t.length-1) 0≠10∧wsp (t.getD (t.length-1) 0)=false:=by decide +kernel
def TokAt (s:ByteArray):Nat→List (List UInt8)→Prop
 | _,[]=>False
 | p,t :: T=>Pre s p t∧((T=[]∧p+t.length=s.size)∨∃ sep,sep∈sepL∧Pre s (p+t.length) sep∧TokAt s (p+t.length+sep.length) T)
theorem Pre.join {s:ByteArray} {p:Nat}:∀ {a b:List UInt8},Pre s p a→Pre s (p+a.length) b→Pre s p (a++b)
 | [],b,_,h=>by simpa using h
 | x :: a,b,h1,h2=>by
  obtain ⟨g1,g2,g3⟩:=h1.cons
  have h3:Pre s (p+1) (a++b):=Pre.join g3 (by rw[List.length_cons] at h2;rwa [show p+1+a.length=p+(a.length+1) by omega])
  obtain ⟨c,d1,d2⟩:=drop_byte s p g1
  unfold Pre at h3 ⊢
  rw[d1,List.cons_append,List.cons_prefix_cons]
  exact ⟨UInt8.toNat_inj.1 (g2.symm.trans d2.symm),h3⟩
theorem TokAt.pre {s:ByteArray} {p:Nat} {t:List UInt8} {T:List (List UInt8)} (h:TokAt s p (t :: T)):Pre s p t:=h.1
theorem TokAt.next {s:ByteArray} {p:Nat} {t u:List UInt8} {T:List (List UInt8)} (h:TokAt s p (t :: u :: T)):∃ sep,sep∈sepL∧Pre s p (t++(sep++u))∧TokAt s (p+t.length+sep.length) (u :: T):=by
 obtain ⟨h1,h2⟩:=h
 rcases h2 with ⟨h2,_⟩|⟨sep,h2,h3,h4⟩
 ·cases h2
 ·exact ⟨sep,h2,h1.join (h3.join h4.pre),h4⟩
theorem betw_sep {s:ByteArray} {p:Nat} {sep u pre:List UInt8} (h0:0<p) (h:Pre s p (pre++(sep++u))) (h1:sep∈sepL) (h2:u∈tokL) (h3:pre∈[[],[(32:UInt8)]]) (hb:byt s (p-1)≠10) (hw:U.white (byt s (p-1):Int)=false) (hp:p≤s.size) :
  ∃ L S,betwR s 0 p (.ok (L,S,p+pre.length+sep.length)):=by
 have hk:=sep_betw sep h1 u h2 pre h3
 cases hb2:betwF 0 (pre++(sep++u)) false with
 | none=>rw[hb2] at hk;cases hk
 | some r=>
  obtain ⟨ts,S,k⟩:=r
  rw[hb2] at hk
  injection hk with hk
  have hk:k=pre.length+sep.length:=hk
  subst hk
  obtain ⟨L,_,hL⟩:=betw_of h0 h hb hw hb2 hp
  exact ⟨L,S,by rw[Nat.add_assoc];exact hL⟩
theorem tok_sep {s:ByteArray} {p:Nat} {t u:List UInt8} {T:List (List UInt8)} (h:TokAt s p (t :: u :: T)) (ht:t∈tokL) (h58:t≠[58,32]) (hu:u∈tokL):∃ sep L S,sep∈sepL∧Pre s p (t++(sep++u))∧betwR s 0 (p+t.length) (.ok (L,S,p+t.length+sep.length))∧TokAt s (p+t.length+sep.length) (u :: T)∧p+t.length≤s.size:=by
 obtain ⟨sep,h1,h2,h3⟩:=h.next
 obtain ⟨l1,l2,l3⟩:=tok_last t ht h58
 have hl:=List.length_pos_iff.2 l1
 have hp:p<s.size:=by
  cases t with
  | nil=>exact absurd rfl l1
  | cons x t=>exact h2.cons.1
 have hb:=h2.app.1.byte (t.length-1) (by omega)
 rw[show p+(t.length-1)=p+t.length-1 by omega] at hb
 have hsz:p+t.length≤s.size:=h2.app.1.size (by omega)
 obtain ⟨L,S,hL⟩:=betw_sep (pre:=[]) (by omega) h2.app.2 h1 hu (by simp) (by rw[hb];intro e;exact l2 ((u8_eq (by decide)).1 e)) (by rw[hb,wsp_white];exact l3) hsz
 exact ⟨sep,L,S,h1,h2,hL,h3,hsz⟩
theorem tok_sign {s:ByteArray} {p:Nat} {u:List UInt8} {T:List (List UInt8)} (h:TokAt s p ([58,32] :: u :: T)) (hu:u∈tokL):∃ L S q,betwR s 0 (p+1) (.ok (L,S,q))∧TokAt s q (u :: T)∧signB s p false=true:=by
 obtain ⟨sep,h1,h2,h3⟩:=h.next
 obtain ⟨g1,g2,g3⟩:=Pre.cons h2
 obtain ⟨L,S,hL⟩:=betw_sep (p:=p+1) (pre:=[32]) (by omega) g3 h1 hu (by simp) (by show byt s p≠10;rw[g2];decide) (by show U.white (byt s p:Int)=false;rw[g2];decide) g1
 refine ⟨L,S,_,hL,?_,?_⟩
 ·exact h3
 ·rw[(sign_of (near:=false) h2).2.2 32 _ rfl]
  decide
section
variable {s:ByteArray} {col:Nat→Nat→Rd (NT × Nat)→Prop}
theorem step_node {p pc deep:Nat} {lead:Coms} {f:Fd} {x:UInt8} {l:List UInt8} {t u:List UInt8} {T:List (List UInt8)} {sh:NT} (h:TokAt s pc (t :: [44] :: u :: T)) (ht:t∈tokL) (h58:t≠[58,32]) (hu:u∈tokL) (hx:Pre s p (x :: l)) (hx2:x≠63∧x≠58)
  (hf:someR s 0 col (deep+1) p (.ok f)) (ha:f.any=true) (hfin:f.fin=pc+t.length) (hal:AlikeT f.x sh) :
  ∃ ks lead' q,stepR s 0 col true 93 deep lead p (.ok (ks,lead',q))∧AlikeL ks [sh]∧TokAt s q (u :: T):=by
 obtain ⟨sep,L,S,h1,h2,h3,h4,h5⟩:=tok_sep h ht h58 (by decide)
 obtain ⟨sep2,L2,S2,k1,k2,k3,k4,k5⟩:=tok_sep h4 (by decide) (by decide) hu
 have hn:=sep_next sep h1
 cases hd:(sep++[44]).dropWhile wsp with
 | nil=>rw[hd] at hn;cases hn
 | cons y t'=>
  rw[hd] at hn
  have hy:y≠58:=of_decide_eq_true hn
  rw[←hfin] at h3 h4 k2 k3 k4
  obtain ⟨m,hm⟩:=item_of (lead:=lead) hx hx2 hf ha (by omega) (l2:=sep++[44]) (by rw[hfin];exact h2.app.2) hd hy h3 ((sign_of (near:=f.near) k2).1 (by decide))
  obtain ⟨sm,_,hs⟩:=step_comma (seq:=true) (closing:=93) hm k2 (L:=L2) (S:=S2) (q:=f.fin+sep.length+[44].length+sep2.length) k3
  refine ⟨_,_,_,hs,?_,k4⟩
  refine AlikeL.trailed _ _ _ ?_
  unfold AlikeL
  exact ⟨sh,[],rfl,hal.top _ _,by unfold AlikeL;rfl⟩
theorem alike_leaf (st:Int) (p q:Nat) (T:List UInt8):AlikeT (leafN st p T) (leafN st q T):=by
 unfold leafN AlikeT
 exact ⟨⟨rfl,rfl,rfl,rfl,rfl⟩,AlikeL.refl []⟩
theorem word_tok:∀ wd∈wordL,wd∈tokL∧wd≠[58,32]∧wd∈wordL++[[107],[118],[112]]∧(match wd with | []=>false|x :: _=>decide (x≠63∧x≠58∧x≠44∧x≠93∧x≠125))=true:=by decide +kernel
theorem some_word {p deep:Nat} {wd sep u:List UInt8} (h:Pre s p (wd++(sep++u))) (hw:wd∈wordL++[[107],[118],[112]]) (h1:sep∈sepL) (hu:u∈[[(44:UInt8)],[58,32]]):someR s 0 col deep p (.ok ⟨leafN 1 p wd,true,false,true,p+wd.length⟩):=by
 have:=node_plain (n:=0) (col:=col) (deep:=deep) h (sep_plain wd hw sep h1 u hu)
 rwa [List.take_left] at this
theorem step_word {p deep:Nat} {lead:Coms} {wd u:List UInt8} {T:List (List UInt8)} (h:TokAt s p (wd :: [44] :: u :: T)) (hw:wd∈wordL) (hu:u∈tokL):∃ ks lead' q,stepR s 0 col true 93 deep lead p (.ok (ks,lead',q))∧AlikeL ks [leafN 1 0 wd]∧TokAt s q (u :: T):=by
 obtain ⟨w1,w2,w3,w4⟩:=word_tok wd hw
 obtain ⟨sep,h1,h2,_⟩:=h.next
 cases wd with
 | nil=>cases w4
 | cons x l=>
  have hx:=of_decide_eq_true w4
  exact step_node h w1 w2 hu h2.app.1 ⟨hx.1,hx.2.1⟩ (some_word h2 w3 h1 (by simp)) rfl rfl (alike_leaf 1 p 0 _)
theorem step_pair {p deep:Nat} {lead:Coms} {u:List UInt8} {T:List (List UInt8)} (h:TokAt s p ([63] :: [112] :: [58,32] :: [34,113,34] :: [44] :: u :: T)) (hu:u∈tokL) (hd:deep+1<40):∃ ks lead' q,stepR s 0 col true 93 deep lead p (.ok (ks,lead',q))∧AlikeL ks [pairN 0 0 [] (leafN 1 0 [112]) (leafN 3 0 [113])]∧TokAt s q (u :: T):=by
 obtain ⟨s1,L1,S1,a1,a2,a3,a4,a5⟩:=tok_sep h (by decide) (by decide) (by decide)
 obtain ⟨s2,L2,S2,b1,b2,b3,b4,b5⟩:=tok_sep a4 (by decide) (by decide) (by decide)
 obtain ⟨L3,S3,q3,c1,c2,c3⟩:=tok_sign b4 (by decide)
 obtain ⟨s4,L4,S4,d1,d2,d3,d4,d5⟩:=tok_sep c2 (by decide) (by decide) (by decide)
 obtain ⟨s5,L5,S5,e1,e2,e3,e4,e5⟩:=tok_sep d4 (by decide) (by decide) hu
 have hq:queryB s p=true:=by
  have hy:∀ sep∈sepL,∃ y t,sep=y :: t∧(y=32∨y=9∨y=10):=by
   intro sep hs
   unfold sepL at hs
   simp only[List.mem_cons,List.not_mem_nil,or_false] at hs
   rcases hs with rfl|rfl|rfl|rfl|rfl <;> exact ⟨_,_,rfl,by decide⟩
  obtain ⟨y,t,e,hy2⟩:=hy s1 a1
  rw[e] at a2
  exact query_yes a2 hy2
 have ha:=asked_of (n:=0) (col:=col) (deep:=deep+2) (p:=p) a3 (x:=112) (l:=[]) a4.pre (by decide) (some_word b2 (by decide) b1 (by decide))
 have hv:=value_of (n:=0) (col:=col) (lead:=L2) (deep:=deep+2) c1 (x:=34) (l:=[113,34]) c2.pre (by decide) (node_quote (n:=0) (col:=col) (deep:=deep+2) (q:=34) (y:=113) (l:=s4++[44]) d2 (.inr rfl) (by decide) (by
  intro t e
  unfold sepL at d1
  simp only[List.mem_cons,List.not_mem_nil,or_false] at d1
  rcases d1 with rfl|rfl|rfl|rfl|rfl <;> cases e) (by simp)) d3
 have hb:=behind_of (n:=0) (col:=col) (f:=⟨leafN 1 (p+[63].length+s1.length) [112],true,false,true,p+[63].length+s1.length+[112].length⟩) (deep:=deep+2) (p:=p+[63].length+s1.length+[112].length) rfl b3 c3 hv
 obtain ⟨m,hm⟩:=pair_of (lead:=lead) hq hd ha hb
 obtain ⟨sm,_,hs⟩:=step_comma (seq:=true) (closing:=93) hm e2 e3
 refine ⟨_,_,_,hs,?_,e4⟩
 refine AlikeL.trailed _ _ _ ?_
 unfold AlikeL
 refine ⟨_,[],rfl,?_,by unfold AlikeL;rfl⟩
 unfold pairN AlikeT
 refine ⟨⟨rfl,rfl,rfl,rfl,rfl⟩,?_⟩
 unfold AlikeL
 refine ⟨_,_,rfl,alike_leaf 1 _ 0 _,?_⟩
 unfold AlikeL
 refine ⟨_,_,rfl,(alike_leaf 3 _ 0 _).lead _,by unfold AlikeL;rfl⟩
theorem loop_go {seq:Bool} {closing deep p q:Nat} {x:UInt8} {l:List UInt8} {lead lead':Coms} {kids ks:List NT} {n:Int} {o:Rd (List NT × Coms × Nat)} (h:Pre s p (x :: l)) (hx:x≠44∧x≠93∧x≠125) (hc:closing=93∨closing=125) (hs:stepR s n col seq closing deep lead p (.ok (ks,lead',q))) (hl:LoopR s n col seq closing deep o q lead' (kids++ks)):LoopR s n col seq closing deep o p lead kids:=by
 have e:isB s p closing=false:=by
  rw[isB_of (c:=closing) h]
  refine decide_eq_false fun e=>?_
  rcases hc with rfl|rfl
  ·exact hx.2.1 ((u8_eq (by decide)).1 e)
  ·exact hx.2.2 ((u8_eq (by decide)).1 e)
 refine .go e h.cons.1 ?_ hs hl
 rw[lacks_of h]
 exact decide_eq_false (by rintro (e|e|e);exact hx.1 e;exact hx.2.1 e;exact hx.2.2 e)
theorem loop_done {seq:Bool} {closing deep p:Nat} {x:UInt8} {l:List UInt8} {lead:Coms} {kids:List NT} {n:Int} (h:Pre s p (x :: l)) (hx:x.toNat=closing):LoopR s n col seq closing deep (.ok (kids,lead,p+1)) p lead kids:=.done (by rw[isB_of (c:=closing) h];exact decide_eq_true hx) rfl
end
def listN (kids:List NT):NT:=.mk ⟨3,7,0,0,[],[],[],[],[],false,[]⟩ kids
def mapN:NT:=.mk ⟨4,7,0,0,[],[],[],[],[],false,[]⟩ [leafN 1 0 [107],leafN 1 0 [118],leafN 2 0 [119],listN []]
def mapL:List (List UInt8):=[[123],[107],[58,32],[118],[44],[39,119,39],[58],[91],[93],[125],[44]]
def pairL:List (List UInt8):=[[63],[112],[58,32],[34,113,34],[44]]
section
variable {s:ByteArray}
theorem alike_one {x y:NT} (h:AlikeT x y):AlikeL [x] [y]:=by
 unfold AlikeL
 exact ⟨y,[],rfl,h,by unfold AlikeL;rfl⟩
theorem alike_two {x y x2 y2:NT} (h:AlikeT x y) (h2:AlikeT x2 y2):AlikeL [x,x2] [y,y2]:=by
 unfold AlikeL
 exact ⟨y,[y2],rfl,h,alike_one h2⟩
theorem sep_quote {sep u:List UInt8} (h:sep∈sepL):∀ t,sep++u≠39 :: t:=by
 intro t e
 unfold sepL at h
 simp only[List.mem_cons,List.not_mem_nil,or_false] at h
 rcases h with rfl|rfl|rfl|rfl|rfl <;> cases e
theorem step_map {g p deep:Nat} {lead:Coms} {u:List UInt8} {T:List (List UInt8)} (h:TokAt s p (mapL++u :: T)) (hu:u∈tokL) (hd:deep+2<40):∃ ks lead' q,stepR s 0 (collR s 0 (g+2)) true 93 deep lead p (.ok (ks,lead',q))∧AlikeL ks [mapN]∧TokAt s q (u :: T):=by
 have h0:TokAt s p ([123] :: [107] :: [58,32] :: [118] :: [44] :: [39,119,39] :: [58] :: [91] :: [93] :: [125] :: [44] :: u :: T):=h
 obtain ⟨s1,L1,S1,a1,a2,a3,a4,a5⟩:=tok_sep h0 (by decide) (by decide) (by decide)
 obtain ⟨s2,L2,S2,b1,b2,b3,b4,b5⟩:=tok_sep a4 (by decide) (by decide) (by decide)
 obtain ⟨L3,S3,q3,c1,c2,c3⟩:=tok_sign b4 (by decide)
 obtain ⟨s4,L4,S4,d1,d2,d3,d4,d5⟩:=tok_sep c2 (by decide) (by decide) (by decide)
 obtain ⟨s5,L5,S5,e1,e2,e3,e4,e5⟩:=tok_sep d4 (by decide) (by decide) (by decide)
 obtain ⟨s6,L6,S6,f1,f2,f3,f4,f5⟩:=tok_sep e4 (by decide) (by decide) (by decide)
 obtain ⟨s7,L7,S7,g1,g2,g3,g4,g5⟩:=tok_sep f4 (by decide) (by decide) (by decide)
 obtain ⟨s8,L8,S8,h1,h2,h3,h4,h5⟩:=tok_sep g4 (by decide) (by decide) (by decide)
 obtain ⟨s9,L9,S9,i1,i2,i3,i4,i5⟩:=tok_sep h4 (by decide) (by decide) (by decide)
 generalize p+[123].length+s1.length=p1 at *
 generalize p1+[107].length+s2.length=p2 at *
 generalize q3+[118].length+s4.length=p4 at *
 generalize p4+[44].length+s5.length=p5 at *
 generalize p5+[39,119,39].length+s6.length=p6 at *
 generalize p6+[58].length+s7.length=p7 at *
 generalize p7+[91].length+s8.length=p8 at *
 generalize hp9:p8+[93].length+s9.length=p9 at *
 -- the first entry
 have v1:=value_of (n:=0) (col:=collR s 0 (g+1)) (lead:=L2) (deep:=deep+1+1) c1 (x:=118) (l:=[]) c2.pre (by decide) (some_word d2 (by decide) d1 (by simp)) d3
 have w1:=behind_of (n:=0) (col:=collR s 0 (g+1)) (f:=⟨leafN 1 p1 [107],true,false,true,p1+[107].length⟩) (deep:=deep+1+1) (p:=p1+[107].length) rfl b3 c3 v1
 obtain ⟨m1,n1⟩:=entry_of (lead:=L1) (deep:=deep+1) a4.pre (x:=107) (l:=[]) (by decide) (some_word b2 (by decide) b1 (by simp)) w1
 obtain ⟨sm1,_,t1⟩:=step_comma (seq:=false) (closing:=125) n1 e2 e3
 -- the list in it
 have cl:=coll_of (n:=0) (g:=g) (deep:=deep+1+1) g4.pre (x:=91) (l:=[]) (.inl rfl) (by omega) h3 (kids:=[]) (foot:=L8) (e:=p8+1) (loop_done (x:=93) (l:=[]) h4.pre rfl)
 -- the second entry
 have v2:=value_of (n:=0) (col:=collR s 0 (g+1)) (lead:=L6) (deep:=deep+1+1) g3 (x:=91) (l:=[]) g4.pre (by decide) (node_coll g4.pre (.inl rfl) cl) i3
 have w2:=behind_of (n:=0) (col:=collR s 0 (g+1)) (f:=⟨leafN (if (39:UInt8)=39 then 2 else 3) p5 [119],true,true,true,p5+3⟩) (deep:=deep+1+1) (p:=p5+3) rfl f3 ((sign_of (near:=true) f4.pre).2.1 rfl rfl) v2
 obtain ⟨m2,n2⟩:=entry_of (lead:=left (L4++L5) sm1) (deep:=deep+1) e4.pre (x:=39) (l:=[119,39]) (by decide) (node_quote (n:=0) (col:=collR s 0 (g+1)) (deep:=deep+1+1) (q:=39) (y:=119) (l:=s6++[58]) f2 (.inl rfl) (by decide) (sep_quote f1) (by simp)) w2
 have t2:=step_last (seq:=false) (closing:=125) n2 (x:=125) (l:=[]) i4.pre rfl (by decide)
 -- the map
 have lp:=loop_go (kids:=[]) a4.pre (x:=107) (l:=[]) (by decide) (.inr rfl) t1 (loop_go e4.pre (x:=39) (l:=[119,39]) (by decide) (.inr rfl) t2 (loop_done (x:=125) (l:=[]) i4.pre rfl))
 have cm:=coll_of (n:=0) (g:=g+1) (deep:=deep+1) h0.pre (x:=123) (l:=[]) (.inr rfl) (by omega) a3 lp
 refine step_node (pc:=p9) i4 (by decide) (by decide) hu h0.pre (by decide) (node_coll h0.pre (.inr rfl) cm) rfl rfl ?_
 refine AlikeT.of_head (h:=_) ⟨rfl,rfl,rfl,rfl,rfl⟩ ?_
 unfold mapN AlikeT
 refine ⟨⟨rfl,rfl,rfl,rfl,rfl⟩,?_⟩
 refine AlikeL.app (a:=_++_) (b:=[leafN 1 0 [107],leafN 1 0 [118]]) (d:=[leafN 2 0 [119],listN []]) ?_ ?_
 ·refine AlikeL.app (b:=[]) (by unfold AlikeL;rfl) (AlikeL.trailed _ _ _ (alike_two ((alike_leaf 1 _ 0 _).top _ _) ((alike_leaf 1 _ 0 _).lead _)))
 ·refine AlikeL.trailed _ _ _ (alike_two ((alike_leaf 2 _ 0 _).top _ _) (AlikeT.lead _ ?_))
  refine AlikeT.of_head (h:=_) ⟨rfl,rfl,rfl,rfl,rfl⟩ ?_
  unfold listN AlikeT
  exact ⟨⟨rfl,rfl,rfl,rfl,rfl⟩,AlikeL.refl []⟩
end
end Go.Proofs.YtncngeamdechmaaGreatDoor
namespace Go.Proofs.YtncngeamdechmaaGreatDoor
open Go.RowKit
def way (k:Int):Nat:=(lowZ k 6).toNat
def tokT:List Int→Nat→List (List UInt8)
 | [],d=>List.replicate d [93]
 | k :: ks,d=>
  if way k=0 then [91] :: tokT ks (d+1)
  else if way k=1 then (if 1<d then [93] :: [44] :: tokT ks (d-1) else tokT ks d)
  else if way k=2 then mapL++tokT ks d
  else if way k=3 then pairL++tokT ks d
  else word (k.tdiv 6) :: [44] :: tokT ks d
theorem tokT_0 {k:Int} {ks:List Int} {d:Nat} (h:way k=0):tokT (k :: ks) d=[91] :: tokT ks (d+1):=by
 conv=>lhs;unfold tokT
 rw[if_pos h]
theorem tokT_1 {k:Int} {ks:List Int} {d:Nat} (h:way k=1) (hd:1<d):tokT (k :: ks) d=[93] :: [44] :: tokT ks (d-1):=by
 conv=>lhs;unfold tokT
 rw[if_neg (by omega),if_pos h,if_pos hd]
theorem tokT_1n {k:Int} {ks:List Int} {d:Nat} (h:way k=1) (hd:¬ 1<d):tokT (k :: ks) d=tokT ks d:=by
 conv=>lhs;unfold tokT
 rw[if_neg (by omega),if_pos h,if_neg hd]
theorem tokT_2 {k:Int} {ks:List Int} {d:Nat} (h:way k=2):tokT (k :: ks) d=mapL++tokT ks d:=by
 conv=>lhs;unfold tokT
 rw[if_neg (by omega),if_neg (by omega),if_pos h]
theorem tokT_3 {k:Int} {ks:List Int} {d:Nat} (h:way k=3):tokT (k :: ks) d=pairL++tokT ks d:=by
 conv=>lhs;unfold tokT
 rw[if_neg (by omega),if_neg (by omega),if_neg (by omega),if_pos h]
theorem tokT_4 {k:Int} {ks:List Int} {d:Nat} (h:4≤way k):tokT (k :: ks) d=word (k.tdiv 6) :: [44] :: tokT ks d:=by
 conv=>lhs;unfold tokT
 rw[if_neg (by omega),if_neg (by omega),if_neg (by omega),if_neg (by omega)]
def pairT:NT:=pairN 0 0 [] (leafN 1 0 [112]) (leafN 3 0 [113])
def shp:Nat→List Int→Nat→List NT × Option (List Int)
 | 0,_,_=>([],none)
 | _+1,[],_=>([],none)
 | g+1,k :: ks,d=>
  if way k=0 then (match (shp g ks (d+1)).2 with
   | none=>([listN (shp g ks (d+1)).1],none)
   | some ks'=>(listN (shp g ks (d+1)).1 :: (shp g ks' d).1,(shp g ks' d).2))
  else if way k=1 then (if 1<d then ([],some ks) else shp g ks d)
  else if way k=2 then (mapN :: (shp g ks d).1,(shp g ks d).2)
  else if way k=3 then (pairT :: (shp g ks d).1,(shp g ks d).2)
  else (leafN 1 0 (word (k.tdiv 6)) :: (shp g ks d).1,(shp g ks d).2)
theorem tokT_head:∀ (ks:List Int) (d:Nat),1≤d→∃ u T,tokT ks d=u :: T∧u∈tokL
 | [],d,hd=>⟨[93],List.replicate (d-1) [93],by unfold tokT;rw[show d=d-1+1 by omega];rfl,by decide⟩
 | k :: ks,d,hd=>by
  unfold tokT
  split
  ·exact ⟨_,_,rfl,by decide⟩
  ·split
   ·split
    ·exact ⟨_,_,rfl,by decide⟩
    ·exact tokT_head ks d hd
   ·split
    ·exact ⟨_,_,rfl,by decide⟩
    ·split
     ·exact ⟨_,_,rfl,by decide⟩
     ·exact ⟨_,_,rfl,(word_tok _ (word_mem _)).1⟩
theorem shp_less:∀ (g:Nat) (ks:List Int) (d:Nat) (ks':List Int),(shp g ks d).2=some ks'→ks'.length<ks.length∧1<d
 | 0,ks,d,ks',h=>by cases h
 | g+1,[],d,ks',h=>by cases h
 | g+1,k :: ks,d,ks',h=>by
  unfold shp at h
  split at h
  ·cases hr:(shp g ks (d+1)).2 with
   | none=>rw[hr] at h;cases h
   | some ks2=>
    rw[hr] at h
    have h1:=shp_less g ks (d+1) ks2 hr
    have h2:=shp_less g ks2 d ks' h
    exact ⟨by rw[List.length_cons];omega,h2.2⟩
  ·split at h
   ·split at h
    ·injection h with h
     subst h
     rename_i hd
     exact ⟨by simp,hd⟩
    ·have:=shp_less g ks d ks' h
     exact ⟨by rw[List.length_cons];omega,this.2⟩
   ·split at h
    ·have:=shp_less g ks d ks' h
     exact ⟨by rw[List.length_cons];omega,this.2⟩
    ·split at h
     ·have:=shp_less g ks d ks' h
      exact ⟨by rw[List.length_cons];omega,this.2⟩
     ·have:=shp_less g ks d ks' h
      exact ⟨by rw[List.length_cons];omega,this.2⟩
theorem step_end {s:ByteArray} {col:Nat→Nat→Rd (NT × Nat)→Prop} {p pc deep:Nat} {lead:Coms} {f:Fd} {x:UInt8} {l:List UInt8} {T:List (List UInt8)} {sh:NT} (h:TokAt s pc ([93] :: [93] :: T)) (hx:Pre s p (x :: l)) (hx2:x≠63∧x≠58)
  (hf:someR s 0 col (deep+1) p (.ok f)) (ha:f.any=true) (hfin:f.fin=pc+1) (hal:AlikeT f.x sh) :
  ∃ ks lead' q,stepR s 0 col true 93 deep lead p (.ok (ks,lead',q))∧AlikeL ks [sh]∧TokAt s q ([93] :: T):=by
 obtain ⟨sep,L,S,h1,h2,h3,h4,h5⟩:=tok_sep h (by decide) (by decide) (by decide)
 have hn:∀ sep∈sepL,(match (sep++[93]).dropWhile wsp with | []=>false|y :: _=>decide (y≠58))=true:=by decide +kernel
 have hn:=hn sep h1
 have hfin:f.fin=pc+([93]:List UInt8).length:=hfin
 cases hd:(sep++[93]).dropWhile wsp with
 | nil=>rw[hd] at hn;cases hn
 | cons y t'=>
  rw[hd] at hn
  have hy:y≠58:=of_decide_eq_true hn
  rw[←hfin] at h3 h4 h5
  obtain ⟨m,hm⟩:=item_of (lead:=lead) hx hx2 hf ha h5 (l2:=sep++[93]) (by rw[hfin];exact h2.app.2) hd hy h3 ((sign_of (near:=f.near) h4.pre).1 (by decide))
  have hs:=step_last (seq:=true) (closing:=93) hm (x:=93) (l:=[]) h4.pre rfl (by decide)
  refine ⟨_,_,_,hs,?_,h4⟩
  exact AlikeL.trailed _ _ _ (alike_one (hal.top _ _))
theorem flow_loop (s:ByteArray):∀ (m:Nat) (ks:List Int) (d p G:Nat),ks.length≤m→1≤d→d+ks.length≤36→ks.length+3≤G→TokAt s p (tokT ks d)→∀ (lead:Coms) (kids:List NT),
  ∃ kids2 foot q,LoopR s 0 (collR s 0 G) true 93 (d-1) (.ok (kids++kids2,foot,q+1)) p lead kids∧AlikeL kids2 (shp (m+1) ks d).1 ∧
   match (shp (m+1) ks d).2 with
   | none=>TokAt s q ([93] :: List.replicate (d-1) [93])
   | some ks'=>TokAt s q ([93] :: [44] :: tokT ks' (d-1)):=by
 intro m
 induction m with
 | zero=>
  intro ks d p G hm hd hdk hG h lead kids
  have:ks=[]:=List.eq_nil_of_length_eq_zero (by omega)
  subst this
  have h2:TokAt s p ([93] :: List.replicate (d-1) [93]):=by unfold tokT at h;rwa [show d=d-1+1 by omega] at h
  refine ⟨[],lead,p,?_,by unfold shp AlikeL;rfl,h2⟩
  rw[List.append_nil]
  exact loop_done h2.pre rfl
 | succ m ih=>
  intro ks d p G hm hd hdk hG h lead kids
  cases ks with
  | nil=>
   have h2:TokAt s p ([93] :: List.replicate (d-1) [93]):=by unfold tokT at h;rwa [show d=d-1+1 by omega] at h
   refine ⟨[],lead,p,?_,by unfold shp AlikeL;rfl,h2⟩
   rw[List.append_nil]
   exact loop_done h2.pre rfl
  | cons k ks=>
   rw[List.length_cons] at hm hdk hG
   unfold tokT at h
   unfold shp
   by_cases c0:way k=0
   ·rw[if_pos c0] at h ⊢
    obtain ⟨G',rfl⟩:∃ G',G=G'+1:=⟨G-1,by omega⟩
    obtain ⟨u,T,e1,e2⟩:=tokT_head ks (d+1) (by omega)
    rw[e1] at h
    obtain ⟨s1,L1,S1,a1,a2,a3,a4,a5⟩:=tok_sep h (by decide) (by decide) e2
    rw[←e1] at a4
    obtain ⟨k2,foot,q,l1,l2,l3⟩:=ih ks (d+1) _ G' (by omega) (by omega) (by omega) (by omega) a4 L1 []
    rw[show d+1-1=d-1+1 by omega] at l1
    have hc:=coll_of (n:=0) (g:=G') (deep:=d-1+1) h.pre (x:=91) (l:=[]) (.inl rfl) (by omega) a3 l1
    have hn:=node_coll (n:=0) (col:=collR s 0 (G'+1)) h.pre (x:=91) (l:=[]) (.inl rfl) hc
    have hal:AlikeT ((NT.mk ⟨if (91:UInt8)=91 then 3 else 4,7,p,0,[],[],[],[],foot,false,[]⟩ ([]++k2)).withProps [] [] p []) (listN (shp (m+1) ks (d+1)).1):=by
     refine AlikeT.of_head (h:=_) ⟨rfl,rfl,rfl,rfl,rfl⟩ ?_
     unfold listN AlikeT
     exact ⟨⟨rfl,rfl,rfl,rfl,rfl⟩,l2⟩
    cases hr:(shp (m+1) ks (d+1)).2 with
    | none=>
     rw[hr] at l3
     dsimp only at l3 ⊢
     rw[show d+1-1=d-1+1 by omega,List.replicate_succ] at l3
     obtain ⟨ks1,lead',q',t1,t2,t3⟩:=step_end (lead:=lead) l3 h.pre (by decide) hn rfl rfl hal
     exact ⟨ks1,lead',q',loop_go h.pre (x:=91) (l:=[]) (by decide) (.inl rfl) t1 (loop_done t3.pre rfl),t2,t3⟩
    | some ks'=>
     rw[hr] at l3
     dsimp only at l3 ⊢
     have hk:=shp_less _ _ _ _ hr
     rw[show d+1-1=d by omega] at l3
     obtain ⟨u2,T2,e3,e4⟩:=tokT_head ks' d hd
     rw[e3] at l3
     obtain ⟨ks1,lead',q',t1,t2,t3⟩:=step_node (lead:=lead) l3 (by decide) (by decide) e4 h.pre (x:=91) (l:=[]) (by decide) hn rfl rfl hal
     rw[←e3] at t3
     obtain ⟨k3,foot3,q3,m1,m2,m3⟩:=ih ks' d q' (G'+1) (by omega) hd (by omega) (by omega) t3 lead' (kids++ks1)
     refine ⟨ks1++k3,foot3,q3,?_,AlikeL.app (b:=[_]) t2 m2,m3⟩
     rw[←List.append_assoc]
     exact loop_go h.pre (x:=91) (l:=[]) (by decide) (.inl rfl) t1 m1
   ·rw[if_neg c0] at h ⊢
    by_cases c1:way k=1
    ·rw[if_pos c1] at h ⊢
     by_cases h1d:1<d
     ·rw[if_pos h1d] at h ⊢
      refine ⟨[],lead,p,?_,by unfold AlikeL;rfl,h⟩
      rw[List.append_nil]
      exact loop_done h.pre rfl
     ·rw[if_neg h1d] at h ⊢
      exact ih ks d p G (by omega) hd (by omega) (by omega) h lead kids
    ·rw[if_neg c1] at h ⊢
     obtain ⟨u,T,e1,e2⟩:=tokT_head ks d hd
     have more:∀ {x:UInt8} {l:List UInt8} {ks1:List NT} {lead':Coms} {q:Nat} {sh:NT},Pre s p (x :: l)→(x≠44∧x≠93∧x≠125)→stepR s 0 (collR s 0 G) true 93 (d-1) lead p (.ok (ks1,lead',q))→AlikeL ks1 [sh]→TokAt s q (u :: T) →
       ∃ kids2 foot q,LoopR s 0 (collR s 0 G) true 93 (d-1) (.ok (kids++kids2,foot,q+1)) p lead kids∧AlikeL kids2 (sh :: (shp (m+1) ks d).1) ∧
        match (shp (m+1) ks d).2 with
        | none=>TokAt s q ([93] :: List.replicate (d-1) [93])
        | some ks'=>TokAt s q ([93] :: [44] :: tokT ks' (d-1)):=by
      intro x l ks1 lead' q sh hp hx hs ha ht
      rw[←e1] at ht
      obtain ⟨k3,foot3,q3,m1,m2,m3⟩:=ih ks d q G (by omega) hd (by omega) (by omega) ht lead' (kids++ks1)
      refine ⟨ks1++k3,foot3,q3,?_,AlikeL.app (b:=[sh]) ha m2,m3⟩
      rw[←List.append_assoc]
      exact loop_go hp hx (.inl rfl) hs m1
     by_cases c2:way k=2
     ·rw[if_pos c2] at h ⊢
      rw[e1] at h
      obtain ⟨G',rfl⟩:∃ G',G=G'+2:=⟨G-2,by omega⟩
      obtain ⟨ks1,lead',q,t1,t2,t3⟩:=step_map (g:=G') (deep:=d-1) (lead:=lead) h e2 (by omega)
      exact more (x:=123) (l:=[]) (show TokAt s p ([123] :: _) from h).pre (by decide) t1 t2 t3
     ·rw[if_neg c2] at h ⊢
      by_cases c3:way k=3
      ·rw[if_pos c3] at h ⊢
       rw[e1] at h
       obtain ⟨ks1,lead',q,t1,t2,t3⟩:=step_pair (col:=collR s 0 G) (deep:=d-1) (lead:=lead) (show TokAt s p ([63] :: [112] :: [58,32] :: [34,113,34] :: [44] :: u :: T) from h) e2 (by omega)
       exact more (x:=63) (l:=[]) (show TokAt s p ([63] :: _) from h).pre (by decide) t1 t2 t3
      ·rw[if_neg c3] at h ⊢
       rw[e1] at h
       obtain ⟨ks1,lead',q,t1,t2,t3⟩:=step_word (col:=collR s 0 G) (deep:=d-1) (lead:=lead) h (word_mem _) e2
       have w4:=(word_tok _ (word_mem (k.tdiv 6))).2.2.2
       have hp:=h.pre
       cases hw:word (k.tdiv 6) with
       | nil=>rw[hw] at w4;cases w4
       | cons x l=>
        rw[hw] at w4 hp t2
        have hx:=of_decide_eq_true w4
        exact more hp hx.2.2 t1 t2 t3
theorem flow_text {s:ByteArray} {ks:List Int} (hk:ks.length≤12) (h:TokAt s 0 ([91] :: tokT ks 1)):∃ x,FlowZ s 0 0 0 (some x) (s.size:Int) 0∧AlikeT x (listN (shp 13 ks 1).1)∧x.h.kind=3:=by
 obtain ⟨u,T,e1,e2⟩:=tokT_head ks 1 (by omega)
 rw[e1] at h
 obtain ⟨s1,L1,S1,a1,a2,a3,a4,a5⟩:=tok_sep h (by decide) (by decide) e2
 rw[←e1] at a4
 obtain ⟨k2,foot,q,l1,l2,l3⟩:=flow_loop s 12 ks 1 _ 15 hk (by omega) (by omega) (by omega) a4 L1 []
 have hc:=coll_of (n:=0) (g:=15) (deep:=0) h.pre (x:=91) (l:=[]) (.inl rfl) (by omega) a3 l1
 have hq:q+1=s.size:=by
  cases hr:(shp (12+1) ks 1).2 with
  | none=>
   rw[hr] at l3
   rcases l3.2 with ⟨_,e⟩|⟨sep,_,_,e⟩
   ·exact e
   ·exact e.elim
  | some ks'=>have:=shp_less _ _ _ _ hr;omega
 refine ⟨NT.mk ⟨if (91:UInt8)=91 then 3 else 4,7,(0:Nat),0,[],[],[],[],foot,false,[]⟩ ([]++k2),?_,?_,rfl⟩
 ·unfold FlowZ
  rw[if_pos ⟨by decide,.inl (by rw[show (0:Int).toNat=0 from rfl,isB_of (c:=91) h.pre];rfl)⟩]
  refine ⟨16,_,hc,rfl,by rw[hq],rfl⟩
 ·unfold listN AlikeT
  exact ⟨⟨rfl,rfl,rfl,rfl,rfl⟩,l2⟩
def restS (sp:Nat→List UInt8):Nat→List (List UInt8)→List UInt8
 | _,[]=>[]
 | i,t :: T=>(if i=0 then [] else sp i)++t++restS sp (i+1) T
theorem rest_tok (sp:Nat→List UInt8) (hsp:∀ i,sp i∈sepL):∀ (T:List (List UInt8)) (P t:List UInt8) (i:Nat),0<i→TokAt (mkB (P++t++restS sp i T)) P.length (t :: T)
 | [],P,t,i,hi=>by
  unfold restS
  refine ⟨?_,.inl ⟨rfl,?_⟩⟩
  ·unfold Pre mkB
   rw[List.append_nil]
   show t <+: (P++t).toArray.toList.drop P.length
   rw[List.toList_toArray,List.drop_left]
   exact List.prefix_refl _
  ·rw[mkB_size];simp
 | u :: T,P,t,i,hi=>by
  have e:P++t++restS sp i (u :: T)=(P++t++sp i)++u++restS sp (i+1) T:=by
   show P++t++((if i=0 then [] else sp i)++u++restS sp (i+1) T)=_
   rw[if_neg (by omega)]
   simp
  refine ⟨?_,.inr ⟨sp i,hsp i,?_,?_⟩⟩
  ·unfold Pre mkB
   show t <+: (P++t++restS sp i (u :: T)).toArray.toList.drop P.length
   rw[List.toList_toArray,List.append_assoc,List.drop_left]
   exact List.prefix_append _ _
  ·rw[e]
   unfold Pre mkB
   show sp i <+: (P++t++sp i++u++restS sp (i+1) T).toArray.toList.drop (P.length+t.length)
   rw[List.toList_toArray,←List.length_append,show P++t++sp i++u++restS sp (i+1) T=(P++t)++(sp i++(u++restS sp (i+1) T)) by simp,List.drop_left]
   exact List.prefix_append _ _
  ·rw[e]
   have:=rest_tok sp hsp T (P++t++sp i) u (i+1) (by omega)
   rwa [List.length_append,List.length_append] at this
theorem rest_all (sp:Nat→List UInt8) (hsp:∀ i,sp i∈sepL) (t:List UInt8) (T:List (List UInt8)):TokAt (mkB (restS sp 0 (t :: T))) 0 (t :: T):=rest_tok sp hsp T [] t 1 (by omega)
theorem tokT_mem:∀ (ks:List Int) (d:Nat),(∀ t∈tokT ks d,t∈tokL)∧(tokT ks d).length≤12*ks.length+d
 | [],d=>by
  unfold tokT
  refine ⟨fun t ht=>?_,by simp⟩
  rw[(List.mem_replicate.1 ht).2]
  decide
 | k :: ks,d=>by
  have key:∀ (a:List (List UInt8)) (d2:Nat),(∀ t∈a,t∈tokL)→a.length+d2≤d+12→(∀ t∈a++tokT ks d2,t∈tokL)∧(a++tokT ks d2).length≤12*(ks.length+1)+d:=by
   intro a d2 h1 h2
   obtain ⟨i1,i2⟩:=tokT_mem ks d2
   refine ⟨fun t ht=>?_,by rw[List.length_append];omega⟩
   rcases List.mem_append.1 ht with ht|ht
   ·exact h1 t ht
   ·exact i1 t ht
  rw[List.length_cons]
  by_cases c0:way k=0
  ·rw[tokT_0 c0];exact key [[91]] (d+1) (by decide) (by show 1+_≤_;omega)
  ·by_cases c1:way k=1
   ·by_cases hd:1<d
    ·rw[tokT_1 c1 hd];exact key [[93],[44]] (d-1) (by decide) (by show 2+_≤_;omega)
    ·rw[tokT_1n c1 hd];exact key [] d (by decide) (by show 0+_≤_;omega)
   ·by_cases c2:way k=2
    ·rw[tokT_2 c2];exact key mapL d (by decide) (by show 11+_≤_;omega)
    ·by_cases c3:way k=3
     ·rw[tokT_3 c3];exact key pairL d (by decide) (by show 5+_≤_;omega)
     ·have hy:=lowZ_range k 6 (by omega)
      have h4:4≤way k:=by unfold way at *;omega
      rw[tokT_4 h4]
      refine key [word (k.tdiv 6),[44]] d (fun t ht=>?_) (by show 2+_≤_;omega)
      simp only[List.mem_cons,List.not_mem_nil,or_false] at ht
      rcases ht with rfl|rfl
      ·exact (word_tok _ (word_mem _)).1
      ·decide
theorem tok_len:∀ t∈tokL,t.length≤3:=by decide +kernel
theorem sep_len:∀ t∈sepL,t.length≤8:=by decide +kernel
end Go.Proofs.YtncngeamdechmaaGreatDoor
namespace Go.Proofs.YtncngeamdechmaaGreatDoor
open Go.RowKit
section
variable {s:ByteArray} {n:Int} {col:Nat→Nat→Rd (NT × Nat)→Prop}
theorem item_key {lead:Coms} {deep p:Nat} {f:Fd} {v:NT × Rst} {x:UInt8} {l l2 t:List UInt8} (h:Pre s p (x :: l)) (hx:x≠63∧x≠58) (hf:someR s n col (deep+1) p (.ok f)) (ho:f.one=true) (hd:deep+1<40) (hh:f.x.ht=0)
  (h2:Pre s f.fin l2) (h3:l2.dropWhile wsp=58 :: t) (hs:signB s (f.fin+(l2.takeWhile wsp).length) f.near=true) (hv:valueR s n col [] (deep+2) (f.fin+(l2.takeWhile wsp).length+1) (.ok v)) :
  ∃ m:Nat,itemR s n col lead deep p (.ok ([pairN p m lead f.x v.1],true,v.2)):=by
 obtain ⟨k,m,hk⟩:=Abv.ex s p
 refine ⟨m,k,m,hk,?_⟩
 rw[query_of h hx.1,if_neg (by decide)]
 refine .ok (x:=f) (by rw[(sign_of h).1 hx.2,if_neg (by decide)];exact hf) ?_
 obtain ⟨w1,w2⟩:=pre_white h2
 rw[h3] at w2
 obtain ⟨x1,x2,_⟩:=w2.cons
 obtain ⟨b,hb⟩:=RowE.ex s f.fin (by omega)
 have hq:∀ j,j<f.fin+(l2.takeWhile wsp).length→f.fin≤j→byt s j≠10:=fun j j1 j2 e=>by
  have:=w1 j j1 j2
  rw[e] at this
  cases this
 have hqb:f.fin+(l2.takeWhile wsp).length≤b:=by
  refine Decidable.byContradiction fun hc=>?_
  rcases hb.2.2.2 with e|e
  ·omega
  ·exact hq b (by omega) hb.1 e
 refine ⟨b,_,hb,⟨by omega,hqb,w1,.inr (by rw[x2];decide)⟩,?_⟩
 rw[if_pos (.inl ⟨ho,hs⟩),if_neg (by omega)]
 exact .ok (x:=v) hv rfl
end
def awakeA:ByteArray:=⟨#[91,97,44,32,98,58,32,99,93]⟩
def awakeB:ByteArray:=⟨#[91,97,44,44,98,93]⟩
instance (s:ByteArray) (p:Nat) (l:List UInt8):Decidable (Pre s p l):=by unfold Pre;infer_instance
theorem betw_at {s:ByteArray} {n:Int} (p:Nat) (l:List UInt8) (k:Nat) (h0:0<p) (hl:Pre s p l) (hb:byt s (p-1)≠10) (hw:U.white (byt s (p-1):Int)=false) (h:betwF n l false=some ([],false,k)) (hp:p≤s.size):betwR s n p (.ok ([],false,p+k)):=by
 obtain ⟨L,hL,hB⟩:=betw_of h0 hl hb hw h hp
 rwa [List.map_eq_nil_iff.1 hL] at hB
theorem awakeF1:∃ m:Nat,∃ m2:Nat,FlowZ awakeA 0 (-1) 0 (some (.mk ⟨3,7,0,0,[],[],[],[],[],false,[]⟩ [(leafN 1 1 [97]).withTop [] m,pairN 4 m2 [] (leafN 1 4 [98]) ((leafN 1 7 [99]).withLead [])])) 9 0:=by
 have s1:=node_plain (s:=awakeA) (n:=-1) (col:=collR awakeA (-1) 1) (deep:=1) (p:=1) (k:=1) (l:=[97,44]) (by decide +kernel) (by decide +kernel)
 obtain ⟨m,i1⟩:=item_of (lead:=[]) (deep:=0) (p:=1) (x:=97) (l:=[]) (by decide +kernel) (by decide) s1 rfl (by decide) (l2:=[44]) (y:=44) (t:=[]) (by decide +kernel) (by decide +kernel) (by decide) (betw_at 2 [44] 0 (by decide) (by decide +kernel) (by decide +kernel) (by decide +kernel) (by decide +kernel) (by decide)) (by decide +kernel)
 obtain ⟨sm,hsm,t1⟩:=step_comma (seq:=true) (closing:=93) i1 (l:=[]) (show Pre awakeA 2 [44] by decide +kernel) (betw_at 3 [32,98] 1 (by decide) (by decide +kernel) (by decide +kernel) (by decide +kernel) (by decide +kernel) (by decide))
 have hs0:sm=false:=by rw[hsm];rfl
 subst hs0
 have s2:=node_plain (s:=awakeA) (n:=-1) (col:=collR awakeA (-1) 1) (deep:=1) (p:=4) (k:=1) (l:=[98,58,32]) (by decide +kernel) (by decide +kernel)
 have s3:=node_plain (s:=awakeA) (n:=-1) (col:=collR awakeA (-1) 1) (deep:=2) (p:=7) (k:=1) (l:=[99,93]) (by decide +kernel) (by decide +kernel)
 have v1:=value_of (lead:=[]) (p:=6) (betw_at (s:=awakeA) (n:=-1) 6 [32,99] 1 (by decide) (by decide +kernel) (by decide +kernel) (by decide +kernel) (by decide +kernel) (by decide)) (x:=99) (l:=[]) (by decide +kernel) (by decide) s3 (betw_at 8 [93] 0 (by decide) (by decide +kernel) (by decide +kernel) (by decide +kernel) (by decide +kernel) (by decide))
 obtain ⟨m2,i2⟩:=item_key (lead:=[]) (deep:=0) (p:=4) (x:=98) (l:=[]) (by decide +kernel) (by decide) s2 rfl (by decide) (by decide +kernel) (l2:=[58]) (t:=[]) (by decide +kernel) (by decide +kernel) (by decide +kernel) v1
 have t2:=step_last (seq:=true) (closing:=93) i2 (x:=93) (l:=[]) (show Pre awakeA 8 [93] by decide +kernel) rfl (by decide)
 refine ⟨m,m2,?_⟩
 unfold FlowZ
 rw[if_pos ⟨by decide,.inl (by decide +kernel)⟩]
 refine ⟨2,.ok (_,9),coll_of (g:=1) (deep:=0) (p:=0) (x:=91) (l:=[]) (by decide +kernel) (.inl rfl) (by decide) (betw_at (s:=awakeA) (n:=-1) 1 [97] 0 (by decide) (by decide +kernel) (by decide +kernel) (by decide +kernel) (by decide +kernel) (by decide)) (kids:=[(leafN 1 1 [97]).withTop [] m,pairN 4 m2 [] (leafN 1 4 [98]) ((leafN 1 7 [99]).withLead [])]) (foot:=[]) (e:=9) ?_,rfl,rfl,rfl⟩
 refine .go (by decide +kernel) (by decide) (by decide +kernel) t1 (.go (by decide +kernel) (by decide) (by decide +kernel) t2 (.done (show isB awakeA 8 93=true by decide +kernel) ?_))
 rfl
theorem awakeF2:FlowZ awakeB 0 (-1) 0 none 3 5:=by
 have s1:=node_plain (s:=awakeB) (n:=-1) (col:=collR awakeB (-1) 1) (deep:=1) (p:=1) (k:=1) (l:=[97,44]) (by decide +kernel) (by decide +kernel)
 obtain ⟨m,i1⟩:=item_of (lead:=[]) (deep:=0) (p:=1) (x:=97) (l:=[]) (by decide +kernel) (by decide) s1 rfl (by decide) (l2:=[44]) (y:=44) (t:=[]) (by decide +kernel) (by decide +kernel) (by decide) (betw_at 2 [44] 0 (by decide) (by decide +kernel) (by decide +kernel) (by decide +kernel) (by decide +kernel) (by decide)) (by decide +kernel)
 obtain ⟨sm,hsm,t1⟩:=step_comma (seq:=true) (closing:=93) i1 (l:=[]) (show Pre awakeB 2 [44] by decide +kernel) (betw_at 3 [44] 0 (by decide) (by decide +kernel) (by decide +kernel) (by decide +kernel) (by decide +kernel) (by decide))
 unfold FlowZ
 rw[if_pos ⟨by decide,.inl (by decide +kernel)⟩]
 refine ⟨2,.bad 3 5,.inr ⟨by decide,.ok (x:=([],false,1)) (betw_at 1 [97] 0 (by decide) (by decide +kernel) (by decide +kernel) (by decide +kernel) (by decide +kernel) (by decide)) (.bad ?_)⟩,rfl,rfl,rfl⟩
 exact .go (by decide +kernel) (by decide) (by decide +kernel) t1 (.none (by decide +kernel) (.inr (by decide +kernel)) rfl)
end Go.Proofs.YtncngeamdechmaaGreatDoor
