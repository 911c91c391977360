/- Parts of the proof of FlowDeep, put together from smaller texts (blanks that Lean does not want are struck). Conditions: those that each theorem writes out. -/
import Derived.BigQuiet
import Derived.Deep.DeepCutAuto
import Derived.Deep.DrawnRows
import Derived.Deep.LoopGhost
import Derived.Deep.QuietTactic
import Derived.Deep.RegionHeld3
import Derived.Deep.RegionWith
import Derived.Laws.Cover4
import Derived.Lib.CountLaws
import Derived.Lib.Hide
import Derived.Lib.MapLaws
import Derived.Lib.Replace
import Derived.Shelf.LaysC
import Derived.Shelf.LaysM
import Derived.Shelf.Small.Strs
import Derived.Shelf.Small.Utf8
import Derived.Shelf.Strconv.Clone
import Derived.Shelf.Strconv.SyntaxError
import Derived.Shelf.Strconv.ToError
import Derived.Shelf.Strings.AsciiSet
import Derived.Shelf.Strings.Builder1
import Derived.Shelf.Strings.BuilderF
import Derived.Shelf.Strings.BuilderK
import Derived.Shelf.Strings.BuilderRune
import Derived.Shelf.Strings.LastIndex
import Derived.Shelf.Strings.Prefix
import Derived.Shelf.Strings.Runes
import Derived.Shelf.Strings.Search1
import Derived.Shelf.Strings.Search2
import Derived.Shelf.Strings.Search3
import Derived.Shelf.Strings.Shaped
import Derived.Shelf.Strings.Trim
import Derived.Shelf.Unicode.DecodeSlow
import Derived.WalkKit
import Derived.WalkLawsBesides
import Derived.WalkSpells
import Derived.Test.YtncngeamdechmaaGreatDoorEFlowDeep0
import Derived.Test.YtncngeamdechmaaGreatDoorEFlowDeep1
import Derived.Test.YtncngeamdechmaaGreatDoorProg
import Derived.Test.YtncngeamdechmaaGreatDoorZ00
import Derived.Test.YtncngeamdechmaaGreatDoorZ01
import Derived.Test.YtncngeamdechmaaGreatDoorZ02
import Derived.Test.YtncngeamdechmaaGreatDoorZ05
import Derived.Test.YtncngeamdechmaaGreatDoorZ08
import Derived.Test.YtncngeamdechmaaGreatDoorZ11
import Derived.Test.YtncngeamdechmaaGreatDoorZ15
namespace Go.Proofs.YtncngeamdechmaaGreatDoor
open Go.RowKit
attribute [local go_sem ↓] Go.wp_at_zero Go.wp_at_succ
set_option maxRecDepth 100000 in
set_option maxHeartbeats 1600000 in
theorem awake16_true {Ev:World→Prop} (K:FlowC Ev) (w:World) (hE:Ev w):Calls Tryz.prog 7 #[] w fun e w'=>e=.returned (.bool true)∧Below w.heap.size w w':=by
 obtain ⟨T,a,b,hF1,hTk,hTa,hTb⟩:∃ T a b,FlowZ awakeA 0 (-1) 0 (some T) 9 0∧T.kids=[a,b]∧a.h.text=[97]∧b.h.kind=4:=by
  obtain ⟨m,m2,h⟩:=awakeF1
  exact ⟨_,_,_,h,rfl,rfl,rfl⟩
 go_enter Tryz.func7,Tryz.ntmps7
 go_wp2_with fail
 refine (K.read _ _ _ awakeA _ _ _ _ (by decide) hE hF1).mono ?_
 rintro e w2 ⟨cx,rfl,-,nx,b2⟩
 have hEs:=K.keep _ _ hE b2
 obtain ⟨kv,lv,fv,rfl,⟨la,lc,rfl,-,-,-⟩,⟨fa,fc,rfl,-,-,-⟩,⟨ka,kc,rfl,n1,n2,n3⟩⟩:=(nx _ rfl).open
 unfold maxLen at n2
 rw[hTk] at n1 n3 ⊢
 obtain ⟨kb,ko,rfl,hkb,hk⟩:=n3 (by show 0<2;decide)
 have n1:2≤kc:=n1
 rw[show ([a,b]:List NT).length=2 from rfl]
 obtain ⟨p0,p1,p2,p3,p4,p5,p6,p7,p8,p9,p10,p11,hN1,f0,f1,f2,f3,f4,f5,f6,f7,f8,f9,f10,f11⟩:=kid_cells hk (j:=0) (by show 0<2;decide)
 obtain ⟨q0,q1,q2,q3,q4,q5,q6,q7,q8,q9,q10,q11,hN2,g0,g1,g2,g3,g4,g5,g6,g7,g8,g9,g10,g11⟩:=kid_cells hk (j:=1) (by show 1<2;decide)
 have e6:p6=.string ⟨#[97]⟩:=by
  obtain ⟨a',b',c',e,_⟩:=hN1.open
  unfold headC at e
  simp only[List.cons.injEq] at e
  rw[e.2.2.2.2.2.2.1]
  show Value.string ⟨a.h.text.toArray⟩=_
  rw[hTa]
 have e0:q0=.int .i64 4:=by
  obtain ⟨a',b',c',e,_⟩:=hN2.open
  unfold headC at e
  simp only[List.cons.injEq] at e
  rw[e.1]
  show Value.int .i64 b.h.kind=_
  rw[hTb]
 have t6:w2.cell? ⟨kb,ko+6,none⟩=some (.string ⟨#[97]⟩):=by rw[e6] at f6;simpa using f6
 have t0:w2.cell? ⟨kb,ko+12,none⟩=some (.int .i64 4):=by rw[e0] at g0;simpa using g0
 have HKB:kb<w2.heap.size:=hkb
 clear f0 f1 f2 f3 f4 f5 f6 f7 f8 f9 f10 f11 g0 g1 g2 g3 g4 g5 g6 g7 g8 g9 g10 g11 hN1 hN2 hk e6 e0 n3 hkb nx hTk hTa hTb hF1
 unfold headC
 generalize (⟨T.h.anchor.toArray⟩:ByteArray)=s1
 generalize (⟨T.h.tag.toArray⟩:ByteArray)=s2
 generalize (⟨T.h.text.toArray⟩:ByteArray)=s3
 generalize (⟨T.h.trail.toArray⟩:ByteArray)=s4
 go_wp2_with fail
 obtain ⟨WX,hWX⟩:∃ WX:World,WX=w2.alloc (.cells #[.int .i64 T.h.kind,.int .i64 T.h.style,.int .i64 T.h.at',.int .i64 T.h.blank,.string s1,.string s2,.string s3,.slice (some ⟨kb,ko,none⟩) 2 kc,.slice la T.h.lead.length lc,.slice fa T.h.foot.length fc,.bool T.h.ht,.string s4] 30):=⟨_,rfl⟩
 have r7:WX.cell? ⟨w2.heap.size,7,none⟩=some (.slice (some ⟨kb,ko,none⟩) 2 kc):=by rw[hWX];exact World.cell?_alloc_mark ..
 have z1:WX.heap.size=w2.heap.size+1:=by rw[hWX];simp
 have z2:Below w2.heap.size w2 WX:=by rw[hWX];exact (Below.refl _ _).alloc (Nat.le_refl _) _
 rw[←hWX]
 clear hWX
 have t6':WX.cell? ⟨kb,ko+6,none⟩=some (.string ⟨#[97]⟩):=(z2.cell (p:=⟨kb,ko+6,none⟩) HKB).trans t6
 have t0':WX.cell? ⟨kb,ko+12,none⟩=some (.int .i64 4):=(z2.cell (p:=⟨kb,ko+12,none⟩) HKB).trans t0
 have hb3:=b2.trans (z2.mono b2.size)
 have hEt:=K.keep _ _ hE hb3
 refine (K.read _ _ _ awakeB _ _ _ _ (by decide) hEt awakeF2).mono ?_
 rintro e w3 ⟨cy,rfl,ly,-,b3⟩
 have r7':=(b3.cell (p:=⟨w2.heap.size,7,none⟩) (by show w2.heap.size<_;omega)).trans r7
 have t6'':=(b3.cell (p:=⟨kb,ko+6,none⟩) (by show kb<_;omega)).trans t6'
 have t0'':=(b3.cell (p:=⟨kb,ko+12,none⟩) (by show kb<_;omega)).trans t0'
 clear t6 t0 t6' t0' r7
 obtain ⟨i1,i2,i3,i4,u1,u2,u3,a1,m1,d1,a2,m2,d2,a3,m3,d3,bo,u4,rfl⟩:=ly
 have z3:w2.heap.size<w3.heap.size:=by have:=b3.size;omega
 have z4:kb<w3.heap.size:=by omega
 have hb4:=hb3.trans (b3.mono hb3.size)
 go_wp2
 go_ret
 exact ⟨rfl,hb4.alloc hb4.size _⟩
end Go.Proofs.YtncngeamdechmaaGreatDoor
namespace Go.Proofs.YtncngeamdechmaaGreatDoor
open Go.RowKit
def deepT:List Bool→List UInt8
 | []=>[]
 | b :: bs=>91 :: ((if b=true then [63,32,97,32,58,32] else [])++(deepT bs++[93]))
def deepF (deep p:Nat):List Bool→Option Nat
 | []=>none
 | b :: bs=>if 40≤deep then some p else if b=true then (if 40≤deep+1 then some (p+1) else deepF (deep+2) (p+7) bs) else deepF (deep+1) (p+1) bs
theorem deepT_len:∀ bs,(deepT bs).length=2*bs.length+6*(bs.filter (·=true)).length
 | []=>rfl
 | b :: bs=>by
  unfold deepT
  rw[List.length_cons,List.length_append,List.length_append,deepT_len bs]
  cases b
  ·simp;omega
  ·simp;omega
section
variable {s:ByteArray} {n:Int} {col:Nat→Nat→Rd (NT × Nat)→Prop}
theorem some_bad {deep p q:Nat} {c:Int} {l:List UInt8} (h:Pre s p (91 :: l)) (hc:col deep p (.bad q c)):someR s n col deep p (.bad q c):=by
 refine .bad ⟨[],[],(p:Int),0,prop_none h (by decide) (by decide),?_⟩
 rw[if_neg (by decide),Int.toNat_natCast,if_neg (by omega)]
 refine .ok (x:=([],false,p)) rfl (.bad ?_)
 unfold contR
 rw[isB_of (c:=42) h,isB_of (c:=34) h,isB_of (c:=39) h,isB_of (c:=91) h,if_neg (by decide),if_neg (by decide),if_pos (.inl (by decide))]
 exact .bad hc
theorem value_bad {lead:Coms} {deep p q r:Nat} {c:Int} {L:Coms} {S:Bool} {l:List UInt8} (hb:betwR s n p (.ok (L,S,q))) (h:Pre s q (91 :: l)) (hc:someR s n col deep q (.bad r c)):valueR s n col lead deep p (.bad r c):=by
 refine .ok (x:=(L,S,q)) hb ?_
 rw[lacks_of h,if_neg (by decide)]
 exact .bad hc
theorem value_none {lead:Coms} {deep p q:Nat} {L:Coms} {S:Bool} {l:List UInt8} (hb:betwR s n p (.ok (L,S,q))) (h:Pre s q (93 :: l)):valueR s n col lead deep p (.ok (voidN.withLead lead,⟨L,S,p,q⟩)):=by
 refine .ok (x:=(L,S,q)) hb ?_
 rw[lacks_of h,if_pos (by decide)]
theorem behind_bad {f:Fd} {deep p q r:Nat} {c:Int} {L:Coms} {S:Bool} (ha:f.any=true) (hb:betwR s n f.fin (.ok (L,S,q))) (hs:signB s q f.near=true) (hv:valueR s n col L deep (q+1) (.bad r c)):behindR s n col f deep p (.bad r c):=by
 refine .ok (x:=(L,S,q)) (by rw[if_pos ha];exact hb) ?_
 rw[if_pos hs]
 exact hv
theorem pair_bad {lead:Coms} {deep p r:Nat} {c:Int} {a:Coms × Fd × Nat} (hq:queryB s p=true) (hd:deep+1<40) (ha:askedR s n col (deep+2) p (.ok a)) (hv:behindR s n col a.2.1 (deep+2) a.2.2 (.bad r c)):itemR s n col lead deep p (.bad r c):=by
 obtain ⟨k,m,hk⟩:=Abv.ex s p
 refine ⟨k,m,hk,?_⟩
 rw[if_pos hq,if_neg (by omega)]
 exact .ok (x:=a) ha (.bad hv)
theorem pair_deep {lead:Coms} {deep p:Nat} (hq:queryB s p=true) (hd:40≤deep+1):itemR s n col lead deep p (.bad p 6):=by
 obtain ⟨k,m,hk⟩:=Abv.ex s p
 refine ⟨k,m,hk,?_⟩
 rw[if_pos hq,if_pos hd]
theorem item_bad {lead:Coms} {deep p r:Nat} {c:Int} {l:List UInt8} (h:Pre s p (91 :: l)) (hc:someR s n col (deep+1) p (.bad r c)):itemR s n col lead deep p (.bad r c):=by
 obtain ⟨k,m,hk⟩:=Abv.ex s p
 refine ⟨k,m,hk,?_⟩
 rw[query_of h (by decide),if_neg (by decide)]
 refine .bad ?_
 rw[(sign_of h).1 (by decide),if_neg (by decide)]
 exact hc
theorem loop_one {deep p:Nat} {x:UInt8} {l l2:List UInt8} {L:Coms} {e:List NT × Bool × Rst} (h:Pre s p (x :: l)) (hx:x=91∨x=63) (hi:itemR s n col L deep p (.ok e)) (h2:Pre s e.2.2.at' (93 :: l2)):∃ kids foot,LoopR s n col true 93 deep (.ok (kids,foot,e.2.2.at'+1)) p L []:=by
 have hcl:isB s p 93=false:=by rw[isB_of (c:=93) h];rcases hx with rfl|rfl <;> decide
 have hlk:lacksB s p=false:=by rw[lacks_of h];rcases hx with rfl|rfl <;> decide
 exact ⟨_,_,.go hcl h.cons.1 hlk (step_last (seq:=true) (closing:=93) hi h2 rfl (by decide)) (.done (by rw[isB_of (c:=93) h2];decide) rfl)⟩
theorem loop_bad {deep p r:Nat} {c:Int} {x:UInt8} {l:List UInt8} {L:Coms} (h:Pre s p (x :: l)) (hx:x=91∨x=63) (hi:itemR s n col L deep p (.bad r c)):LoopR s n col true 93 deep (.bad r c) p L []:=by
 have hcl:isB s p 93=false:=by rw[isB_of (c:=93) h];rcases hx with rfl|rfl <;> decide
 have hlk:lacksB s p=false:=by rw[lacks_of h];rcases hx with rfl|rfl <;> decide
 exact .bad hcl h.cons.1 hlk (.bad hi) rfl
theorem coll_bad {g deep p r:Nat} {c:Int} {l:List UInt8} (h:Pre s p (91 :: l)) (hd:deep<40) {L:Coms} {S:Bool} {q:Nat} (hb:betwR s n (p+1) (.ok (L,S,q))) (hl:LoopR s n (collR s n g) true 93 deep (.bad r c) q L []):collR s n (g+1) deep p (.bad r c):=by
 refine .inr ⟨hd,.ok (x:=(L,S,q)) hb (.bad ?_)⟩
 rw[isB_of (c:=91) h]
 exact hl
end
theorem deep_last:∀ bs,bs≠[]→∃ D,deepT bs=D++[93]
 | [],h=>absurd rfl h
 | b :: bs,_=>⟨91 :: ((if b=true then [63,32,97,32,58,32] else [])++deepT bs),by
  conv=>lhs;unfold deepT
  simp⟩
theorem dbetw {s:ByteArray} (p:Nat) (l:List UInt8) (k:Nat) (x:UInt8) (h0:0<p) (hl:Pre s p l) (hx:byt s (p-1)=x.toNat) (hx2:x=91∨x=93∨x=63∨x=97∨x=58) (h:betwF (-1) l false=some ([],false,k)) (hp:p≤s.size):betwR s (-1) p (.ok ([],false,p+k)):=
 betw_at p l k h0 hl (by rw[hx];rcases hx2 with rfl|rfl|rfl|rfl|rfl <;> decide) (by rw[hx];rcases hx2 with rfl|rfl|rfl|rfl|rfl <;> decide) h hp
theorem dafter {s:ByteArray} {p:Nat} {bs:List Bool} {tail:List UInt8} (hbs:bs≠[]) (h:Pre s p (deepT bs++(93 :: tail))):betwR s (-1) (p+(deepT bs).length) (.ok ([],false,p+(deepT bs).length))∧Pre s (p+(deepT bs).length) (93 :: tail)∧p+(deepT bs).length≤s.size:=by
 obtain ⟨D,hD⟩:=deep_last bs hbs
 have h2:=h.app.2
 have hs:=h2.cons.1
 have hb:=h.app.1.byte D.length (by rw[hD];simp)
 have hl:(deepT bs).length=D.length+1:=by rw[hD];simp
 have h93:byt s (p+(deepT bs).length-1)=(93:UInt8).toNat:=by
  rw[hl,show p+(D.length+1)-1=p+D.length by omega,hb,hD]
  simp[List.getD]
 have:=dbetw (s:=s) (p+(deepT bs).length) [93] 0 93 (by omega) (Pre.app (a:=[93]) (b:=tail) h2).1 h93 (by decide) (by decide +kernel) (by omega)
 exact ⟨by rwa [Nat.add_zero] at this,h2,by omega⟩
theorem deep_coll {s:ByteArray}:∀ (bs:List Bool) (g deep p:Nat) (tail:List UInt8),bs≠[]→bs.length≤g→Pre s p (deepT bs++tail) →
  match deepF deep p bs with
  | none=>∃ x,collR s (-1) g deep p (.ok (x,p+(deepT bs).length))
  | some q=>collR s (-1) g deep p (.bad q 6):=by
 intro bs
 induction bs with
 | nil=>intro g deep p tail h;exact absurd rfl h
 | cons b bs ih=>
  intro g deep p tail _ hg h
  obtain ⟨g',rfl⟩:∃ g',g=g'+1:=⟨g-1,by simp at hg;omega⟩
  have hg':bs.length≤g':=by simpa using hg
  unfold deepF
  by_cases hd:40≤deep
  ·rw[if_pos hd]
   exact .inl ⟨hd,rfl⟩
  rw[if_neg hd]
  have hd40:deep<40:=by omega
  cases b with
  | false=>
   rw[if_neg (by decide)]
   have h0:Pre s p (91 :: (deepT bs++(93 :: tail))):=by
    unfold deepT at h
    rw[if_neg (by decide)] at h
    simpa using h
   obtain ⟨k1,k2,k3⟩:=h0.cons
   have hlen:p+(deepT (false :: bs)).length=p+1+(deepT bs).length+1:=by
    conv=>lhs;unfold deepT
    rw[if_neg (by decide),List.length_cons,List.length_append,List.length_append]
    show p+(0+((deepT bs).length+1)+1)=_
    omega
   rw[hlen]
   by_cases hbs:bs=[]
   ·subst hbs
    have k3:Pre s (p+1) (93 :: tail):=k3
    have hb:=dbetw (p+1) [93] 0 91 (by omega) (Pre.app (a:=[93]) (b:=tail) k3).1 k2 (by decide) (by decide +kernel) k1
    exact ⟨_,coll_of h0 (.inl rfl) hd40 hb (kids:=[]) (foot:=[]) (.done (show isB s (p+1) 93=true by rw[isB_of (c:=93) k3];decide) rfl)⟩
   ·obtain ⟨c,t,hc⟩:∃ c t,deepT bs=91 :: t∧c=91:=by
     cases bs with
     | nil=>exact absurd rfl hbs
     | cons b2 bs2=>exact ⟨_,_,rfl,rfl⟩
    have h1:Pre s (p+1) (91 :: (t++(93 :: tail))):=by have:=k3;rw[hc.1] at this;exact this
    have hb:=dbetw (p+1) [91] 0 91 (by omega) (Pre.app (a:=[91]) (b:=t++(93 :: tail)) h1).1 k2 (by decide) (by decide +kernel) k1
    have hI:=ih g' (deep+1) (p+1) (93 :: tail) hbs hg' k3
    cases hr:deepF (deep+1) (p+1) bs with
    | none=>
     rw[hr] at hI
     obtain ⟨x,hx⟩:=hI
     obtain ⟨a1,a2,a3⟩:=dafter hbs k3
     obtain ⟨m,hi⟩:=item_of (lead:=[]) (deep:=deep) h1 (by decide) (node_coll (n:=-1) (col:=collR s (-1) g') h1 (.inl rfl) hx) rfl a3 (l2:=[93]) (y:=93) (t:=[]) (Pre.app (a:=[93]) (b:=tail) a2).1 (by decide) (by decide) a1 ((sign_of (near:=true) a2).1 (by decide))
     obtain ⟨kids,foot,hl⟩:=loop_one (L:=[]) h1 (.inl rfl) hi a2
     exact ⟨_,coll_of h0 (.inl rfl) hd40 hb hl⟩
    | some q=>
     rw[hr] at hI
     exact coll_bad h0 hd40 hb (loop_bad h1 (.inl rfl) (item_bad h1 (some_bad h1 hI)))
  | true=>
   rw[if_pos rfl]
   have h0:Pre s p (91 :: 63 :: 32 :: 97 :: 32 :: 58 :: 32 :: (deepT bs++(93 :: tail))):=by
    unfold deepT at h
    rw[if_pos rfl] at h
    simpa using h
   obtain ⟨k1,k2,h1⟩:=h0.cons
   obtain ⟨l1,l2,h2⟩:=h1.cons
   obtain ⟨m1,m2,h3⟩:=h2.cons
   obtain ⟨n1,n2,h4⟩:=h3.cons
   obtain ⟨o1,o2,h5⟩:=h4.cons
   obtain ⟨p1,p2,h6⟩:=h5.cons
   obtain ⟨q1,q2,h7⟩:=h6.cons
   have hb:=dbetw (p+1) [63] 0 91 (by omega) (Pre.app (a:=[63]) h1).1 k2 (by decide) (by decide +kernel) k1
   have hq:=query_yes h1 (.inl rfl)
   by_cases hd1:40≤deep+1
   ·rw[if_pos hd1]
    exact coll_bad h0 hd40 hb (loop_bad h1 (.inr rfl) (pair_deep hq hd1))
   rw[if_neg hd1]
   have b2:=dbetw (p+1+1) [32,97] 1 63 (by omega) (Pre.app (a:=[32,97]) h2).1 l2 (by decide) (by decide +kernel) l1
   have s1:=node_plain (n:=-1) (col:=collR s (-1) g') (deep:=deep+2) (k:=1) (Pre.app (a:=[97,32,58,32]) h3).1 (by decide +kernel)
   have ha:=asked_of (n:=-1) (col:=collR s (-1) g') (deep:=deep+2) (p:=p+1) b2 h3 (by decide) s1
   have b3:=dbetw (p+1+1+1+1) [32,58] 1 97 (by omega) (Pre.app (a:=[32,58]) h4).1 n2 (by decide) (by decide +kernel) n1
   have hs:signB s (p+1+1+1+1+1) false=true:=by rw[(sign_of (near:=false) h5).2.2 32 _ rfl];decide
   have hlen:p+(deepT (true :: bs)).length=p+7+(deepT bs).length+1:=by
    conv=>lhs;unfold deepT
    rw[if_pos rfl,List.length_cons,List.length_append,List.length_append]
    show p+(6+((deepT bs).length+1)+1)=_
    omega
   rw[hlen]
   by_cases hbs:bs=[]
   ·subst hbs
    have h7:Pre s (p+1+1+1+1+1+1+1) (93 :: tail):=h7
    have b4:=dbetw (p+1+1+1+1+1+1) [32,93] 1 58 (by omega) (Pre.app (a:=[32,93]) (b:=tail) h6).1 p2 (by decide) (by decide +kernel) p1
    have hv:=value_none (lead:=[]) (deep:=deep+2) (col:=collR s (-1) g') b4 h7
    have hbh:=behind_of (f:=⟨leafN 1 (p+1+1+1) ([97,32,58,32].take 1),true,false,true,p+1+1+1+1⟩) (p:=p+1+1+1+1) rfl b3 hs hv
    obtain ⟨m,hi⟩:=pair_of (lead:=[]) hq (by omega) ha hbh
    obtain ⟨kids,foot,hl⟩:=loop_one (L:=[]) h1 (.inr rfl) hi h7
    exact ⟨_,coll_of h0 (.inl rfl) hd40 hb hl⟩
   ·obtain ⟨c,t,hc⟩:∃ c t,deepT bs=91 :: t∧c=91:=by
     cases bs with
     | nil=>exact absurd rfl hbs
     | cons b2 bs2=>exact ⟨_,_,rfl,rfl⟩
    have h8:Pre s (p+1+1+1+1+1+1+1) (91 :: (t++(93 :: tail))):=by have:=h7;rw[hc.1] at this;exact this
    have h6':Pre s (p+1+1+1+1+1+1) (32 :: 91 :: (t++(93 :: tail))):=by have:=h6;rw[hc.1] at this;exact this
    have b4:=dbetw (p+1+1+1+1+1+1) [32,91] 1 58 (by omega) (Pre.app (a:=[32,91]) h6').1 p2 (by decide) (by decide +kernel) p1
    have hI:=ih g' (deep+2) (p+7) (93 :: tail) hbs hg' h7
    cases hr:deepF (deep+2) (p+7) bs with
    | none=>
     rw[hr] at hI
     obtain ⟨x,hx⟩:=hI
     obtain ⟨a1,a2,a3⟩:=dafter hbs h7
     have hv:=value_of (lead:=[]) (deep:=deep+2) (col:=collR s (-1) g') b4 h8 (by decide) (node_coll (n:=-1) (col:=collR s (-1) g') h8 (.inl rfl) hx) a1
     have hbh:=behind_of (f:=⟨leafN 1 (p+1+1+1) ([97,32,58,32].take 1),true,false,true,p+1+1+1+1⟩) (p:=p+1+1+1+1) rfl b3 hs hv
     obtain ⟨m,hi⟩:=pair_of (lead:=[]) hq (by omega) ha hbh
     obtain ⟨kids,foot,hl⟩:=loop_one (L:=[]) h1 (.inr rfl) hi a2
     exact ⟨_,coll_of h0 (.inl rfl) hd40 hb hl⟩
    | some q=>
     rw[hr] at hI
     have hv:=value_bad (lead:=[]) (deep:=deep+2) (col:=collR s (-1) g') b4 h8 (some_bad h8 hI)
     have hbh:=behind_bad (f:=⟨leafN 1 (p+1+1+1) ([97,32,58,32].take 1),true,false,true,p+1+1+1+1⟩) (p:=p+1+1+1+1) rfl b3 hs hv
     exact coll_bad h0 hd40 hb (loop_bad h1 (.inr rfl) (pair_bad hq (by omega) ha hbh))
theorem deep_text (bs:List Bool) (d:Nat) (hbs:bs≠[]) (hd:d≤40) :
  match deepF d 0 bs with
  | none=>∃ x,FlowZ (mkB (deepT bs)) 0 (-1) (d:Int) (some x) ((mkB (deepT bs)).size:Int) 0
  | some q=>FlowZ (mkB (deepT bs)) 0 (-1) (d:Int) none (q:Int) 6:=by
 have h:Pre (mkB (deepT bs)) 0 (deepT bs++[]):=by rw[List.append_nil];exact List.prefix_refl _
 have hc:=deep_coll bs bs.length d 0 [] hbs (Nat.le_refl _) h
 have h91:isB (mkB (deepT bs)) 0 91=true:=by
  cases bs with
  | nil=>exact absurd rfl hbs
  | cons b bs=>exact (isB_of (c:=91) (x:=91) h).trans (by decide)
 have hm:(min (max (d:Int) 0) 40).toNat=d:=by omega
 cases hr:deepF d 0 bs with
 | none=>
  rw[hr] at hc
  obtain ⟨x,hx⟩:=hc
  refine ⟨x,?_⟩
  unfold FlowZ
  rw[if_pos ⟨by decide,.inl h91⟩,hm]
  exact ⟨_,_,hx,rfl,by rw[mkB_size,Nat.zero_add],rfl⟩
 | some q=>
  rw[hr] at hc
  unfold FlowZ
  dsimp only
  rw[if_pos ⟨by decide,.inl h91⟩,hm]
  exact ⟨_,_,hc,rfl,rfl,rfl⟩
def openT:List Bool→List UInt8
 | []=>[]
 | b :: bs=>91 :: ((if b=true then [63,32,97,32,58,32] else [])++openT bs)
theorem open_deep:∀ bs,deepT bs=openT bs++List.replicate bs.length 93
 | []=>rfl
 | b :: bs=>by
  unfold deepT openT
  rw[open_deep bs,List.length_cons,List.replicate_succ']
  simp
theorem open_app:∀ (a:List Bool) (b:Bool),openT (a++[b])=openT a++(91 :: (if b=true then [63,32,97,32,58,32] else []))
 | [],b=>by unfold openT openT;simp
 | x :: a,b=>by
  show openT (x :: (a++[b]))=_
  unfold openT
  rw[open_app a b]
  simp
end Go.Proofs.YtncngeamdechmaaGreatDoor
