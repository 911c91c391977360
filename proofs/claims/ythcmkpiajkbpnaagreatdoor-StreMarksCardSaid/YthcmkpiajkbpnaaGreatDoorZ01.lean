/- Parts of the proof, put together from smaller texts (blanks that Lean does not want are struck). Conditions: those that each theorem writes out. -/
import Derived.Test.YthcmkpiajkbpnaaGreatDoorZ00
namespace Go.Proofs.YthcmkpiajkbpnaaGreatDoor
open Go.RowKit
structure NH where
 kind:Int
 style:Int
 at':Int
 blank:Int
 anchor:List UInt8
 tag:List UInt8
 text:List UInt8
 lead:List (List UInt8 × Nat)
 foot:List (List UInt8 × Nat)
 ht:Bool
 trail:List UInt8
inductive NT where
 | mk (h:NH) (kids:List NT)
def NT.h:NT→NH | .mk h _=>h
def NT.kids:NT→List NT | .mk _ k=>k
def headC (h:NH) (kv lv fv:Value):List Value:=[.int .i64 h.kind,.int .i64 h.style,.int .i64 h.at',.int .i64 h.blank,.string ⟨h.anchor.toArray⟩,.string ⟨h.tag.toArray⟩,.string ⟨h.text.toArray⟩,kv,lv,fv,.bool h.ht,.string ⟨h.trail.toArray⟩]
def ComsR (R:Nat→Prop) (w:World) (v:Value) (cs:List (List UInt8 × Nat)):Prop:=
 ∃ ao cap,v=.slice ao cs.length cap∧cs.length≤cap∧cap≤maxLen∧(0<cs.length→∃ b o,ao=some ⟨b,o,none⟩∧R b∧∀ j,j<cs.length→w.cell? ⟨b,o+j*2,none⟩=some (.string ⟨(comT cs j).toArray⟩)∧w.cell? ⟨b,o+j*2+1,none⟩=some (.int .i64 (comN cs j:Int)))
mutual
def IsN (R:Nat→Prop) (w:World):NT→List Value→Prop
 | .mk h kids,cs=>∃ kv lv fv,cs=headC h kv lv fv∧ComsR R w lv h.lead∧ComsR R w fv h.foot∧∃ ao cap,kv=.slice ao kids.length cap∧kids.length≤cap∧cap≤maxLen∧(0<kids.length→∃ b o,ao=some ⟨b,o,none⟩∧R b∧IsKids R w b o kids)
def IsKids (R:Nat→Prop) (w:World) (b:Nat):Nat→List NT→Prop
 | _,[]=>True
 | o,t :: ts=>(∃ cs,(∀ i,i<12→w.cell? ⟨b,o+i,none⟩=cs[i]?)∧IsN R w t cs)∧IsKids R w b (o+12) ts
end
def NodesR (R:Nat→Prop) (w:World) (v:Value) (ts:List NT):Prop:=
 ∃ ao cap,v=.slice ao ts.length cap∧ts.length≤cap∧cap≤maxLen∧(0<ts.length→∃ b o,ao=some ⟨b,o,none⟩∧R b∧IsKids R w b o ts)
theorem IsN.open {R:Nat→Prop} {w:World} {t:NT} {cs:List Value} (h:IsN R w t cs):∃ kv lv fv,cs=headC t.h kv lv fv∧ComsR R w lv t.h.lead∧ComsR R w fv t.h.foot∧NodesR R w kv t.kids:=by
 cases t with
 | mk hd kids=>unfold IsN at h;exact h
theorem IsN.shut {R:Nat→Prop} {w:World} {hd:NH} {kids:List NT} {kv lv fv:Value} (h1:ComsR R w lv hd.lead) (h2:ComsR R w fv hd.foot) (h3:NodesR R w kv kids):IsN R w (.mk hd kids) (headC hd kv lv fv):=by
 unfold IsN
 exact ⟨kv,lv,fv,rfl,h1,h2,h3⟩
theorem IsN.len {R:Nat→Prop} {w:World} {t:NT} {cs:List Value} (h:IsN R w t cs):cs.length=12:=by
 obtain ⟨kv,lv,fv,rfl,_⟩:=h.open
 rfl
theorem cell_frame {w w':World} {b o:Nat} (h:w'.heap[b]?=w.heap[b]?):w'.cell? ⟨b,o,none⟩=w.cell? ⟨b,o,none⟩:=World.cell?_of_block (w:=w) h
theorem ComsR.frame {R R':Nat→Prop} {w w':World} {v:Value} {cs:List (List UInt8 × Nat)} (h:ComsR R w v cs) (hR:∀ b,R b→R' b∧w'.heap[b]?=w.heap[b]?):ComsR R' w' v cs:=by
 obtain ⟨ao,cap,rfl,h1,h2,h3⟩:=h
 refine ⟨ao,cap,rfl,h1,h2,fun hp=>?_⟩
 obtain ⟨b,o,e,hb,hc⟩:=h3 hp
 exact ⟨b,o,e,(hR b hb).1,fun j hj=>⟨by rw[cell_frame (hR b hb).2];exact (hc j hj).1,by rw[cell_frame (hR b hb).2];exact (hc j hj).2⟩⟩
mutual
theorem IsN.frame {R R':Nat→Prop} {w w':World} (hR:∀ b,R b→R' b∧w'.heap[b]?=w.heap[b]?):∀ (t:NT) (cs:List Value),IsN R w t cs→IsN R' w' t cs
 | .mk hd kids,cs,h=>by
  unfold IsN at h ⊢
  obtain ⟨kv,lv,fv,e,h1,h2,ao,cap,e2,h3,h4,h5⟩:=h
  refine ⟨kv,lv,fv,e,h1.frame hR,h2.frame hR,ao,cap,e2,h3,h4,fun hp=>?_⟩
  obtain ⟨b,o,e3,hb,hk⟩:=h5 hp
  exact ⟨b,o,e3,(hR b hb).1,IsKids.frame hR hb kids o hk⟩
theorem IsKids.frame {R R':Nat→Prop} {w w':World} (hR:∀ b,R b→R' b∧w'.heap[b]?=w.heap[b]?) {b:Nat} (hb:R b):∀ (ts:List NT) (o:Nat),IsKids R w b o ts→IsKids R' w' b o ts
 | [],o,h=>by unfold IsKids;trivial
 | t :: ts,o,h=>by
  unfold IsKids at h ⊢
  obtain ⟨⟨cs,h1,h2⟩,h3⟩:=h
  exact ⟨⟨cs,fun i hi=>by rw[cell_frame (hR b hb).2];exact h1 i hi,IsN.frame hR t cs h2⟩,IsKids.frame hR hb ts (o+12) h3⟩
end
theorem NodesR.frame {R R':Nat→Prop} {w w':World} {v:Value} {ts:List NT} (h:NodesR R w v ts) (hR:∀ b,R b→R' b∧w'.heap[b]?=w.heap[b]?):NodesR R' w' v ts:=by
 obtain ⟨ao,cap,rfl,h1,h2,h3⟩:=h
 refine ⟨ao,cap,rfl,h1,h2,fun hp=>?_⟩
 obtain ⟨b,o,e,hb,hc⟩:=h3 hp
 exact ⟨b,o,e,(hR b hb).1,IsKids.frame hR hb ts o hc⟩
def Lo (B:Nat):Nat→Prop:=fun b=>b<B
theorem ComsR.nil (R:Nat→Prop) (w:World):ComsR R w (.slice none 0 0) []:=⟨none,0,rfl,Nat.le_refl _,by decide,fun h=>by simp at h⟩
theorem NodesR.nil (R:Nat→Prop) (w:World):NodesR R w (.slice none 0 0) []:=⟨none,0,rfl,Nat.le_refl _,by decide,fun h=>by simp at h⟩
end Go.Proofs.YthcmkpiajkbpnaaGreatDoor
namespace Go.Proofs.YthcmkpiajkbpnaaGreatDoor.U
def cDig (c:Int):Bool:=decide (48≤c∧c≤57)
def cRun (p:Int→Bool):List UInt8→Nat
 | []=>0
 | b :: l=>if p (b.toNat:Int)=true then cRun p l+1 else 0
def cAll (p:Int→Bool) (l:List UInt8):Bool:=!l.isEmpty&&decide (cRun p l=l.length)
theorem cRun_cons (p:Int→Bool) (b:UInt8) (l:List UInt8):cRun p (b :: l)=if p (b.toNat:Int)=true then cRun p l+1 else 0:=rfl
theorem cRun_all {p:Int→Bool} {l:List UInt8} (h:∀ b∈l,p (b.toNat:Int)=true):cRun p l=l.length:=by
 induction l with
 | nil=>rfl
 | cons b l ih=>
  rw[cRun_cons,if_pos (h b List.mem_cons_self),ih fun x hx=>h x (List.mem_cons_of_mem _ hx)]
  rfl
theorem cRun_len {p:Int→Bool} {l:List UInt8} (h:cRun p l=l.length):∀ b∈l,p (b.toNat:Int)=true:=by
 induction l with
 | nil=>intro b hb;cases hb
 | cons b l ih=>
  rw[cRun_cons] at h
  split at h
  ·next hp=>
   intro x hx
   rcases List.mem_cons.1 hx with rfl|hx
   ·exact hp
   ·exact ih (by simpa using h) x hx
  ·simp at h
def cHexV (c:Nat):Int:=if 48≤c∧c≤57 then (c:Int)-48 else if 97≤c∧c≤102 then (c:Int)-87 else if 65≤c∧c≤70 then (c:Int)-55 else -1
end Go.Proofs.YthcmkpiajkbpnaaGreatDoor.U
namespace Go.Proofs.YthcmkpiajkbpnaaGreatDoor.U
def white (c:Int):Bool:=decide (c=32∨c=9)
def flow (c:Int):Bool:=decide (c=44∨c=91∨c=93∨c=123∨c=125)
def indic (c:Int):Bool:=decide (flow c=true∨c=45∨c=63∨c=58∨c=35∨c=38∨c=42∨c=33∨c=124∨c=62∨c=39∨c=34∨c=37∨c=64∨c=96)
def wordc (c:Int):Bool:=decide ((97≤c∧c≤122)∨(65≤c∧c≤90)∨(48≤c∧c≤57)∨c=45)
def uri (c:Int):Bool:=decide (wordc c=true∨c=35∨c=59∨c=47∨c=63∨c=58∨c=64∨c=38∨c=61∨c=43∨c=36∨c=95∨c=46∨c=33∨c=126∨c=42∨c=39∨c=40∨c=41∨c=37∨c=44∨c=91∨c=93)
def endc (c:Int):Bool:=decide (c=32∨c=9∨c=10)
def keeps (b:UInt8):Bool:=!(endc (b.toNat:Int))&&!(flow (b.toNat:Int))
def nameL (l:List UInt8):Nat:=(l.takeWhile keeps).length
theorem nameL_cons (b:UInt8) (l:List UInt8):nameL (b :: l)=if keeps b=true then nameL l+1 else 0:=by
 unfold nameL
 rw[List.takeWhile_cons]
 split <;> simp
theorem nameL_le (l:List UInt8):nameL l≤l.length:=by
 induction l with
 | nil=>exact Nat.le_refl _
 | cons b l ih=>rw[nameL_cons,List.length_cons];split <;> omega
end Go.Proofs.YthcmkpiajkbpnaaGreatDoor.U
namespace Go.Proofs.YthcmkpiajkbpnaaGreatDoor
open Go.RowKit
theorem drop_byte (s:ByteArray) (k:Nat) (h:k<s.size):∃ b:UInt8,s.data.toList.drop k=b :: s.data.toList.drop (k+1)∧b.toNat=byt s k:=by
 have hl:k<s.data.toList.length:=by rw[←Lib.size_eq];exact h
 refine ⟨_,List.drop_eq_getElem_cons hl,?_⟩
 have e:s.get! k=s[k]'h:=by
  simp[ByteArray.get!,getElem!_pos,h]
  rfl
 unfold byt
 rw[e]
 simp[ByteArray.getElem_eq_getElem_data]
set_option maxHeartbeats 400000 in
theorem White_any (c:Int) (w:World) :
  Calls Tryz.prog 57 #[.int .u8 c] w fun e w'=>e=.returned (.bool (U.white c))∧w=w':=by
 go_enter Tryz.func57,Tryz.ntmps57
 go_wp2
 all_goals go_ret
 all_goals
  refine ⟨congrArg (fun b:Bool=>Ending.returned (.bool b)) ?_,rfl⟩
  unfold U.white
  rw[Bool.eq_iff_iff]
  simp at *
  try omega
theorem White_is (q:Bool) (c:Int) (w:World) (h:U.white c=q) :
  Calls Tryz.prog 57 #[.int .u8 c] w fun e w'=>e=.returned (.bool q)∧w=w':=by
 subst h;exact White_any c w
set_option maxHeartbeats 400000 in
theorem Flow_any (c:Int) (w:World) :
  Calls Tryz.prog 90 #[.int .u8 c] w fun e w'=>e=.returned (.bool (U.flow c))∧w=w':=by
 go_enter Tryz.func90,Tryz.ntmps90
 go_wp2
 all_goals go_ret
 all_goals
  refine ⟨congrArg (fun b:Bool=>Ending.returned (.bool b)) ?_,rfl⟩
  unfold U.flow
  rw[Bool.eq_iff_iff]
  simp at *
  try omega
theorem Flow_is (q:Bool) (c:Int) (w:World) (h:U.flow c=q) :
  Calls Tryz.prog 90 #[.int .u8 c] w fun e w'=>e=.returned (.bool q)∧w=w':=by
 subst h;exact Flow_any c w
set_option maxHeartbeats 1600000 in
theorem Indicator_any (c:Int) (w:World) :
  Calls Tryz.prog 150 #[.int .u8 c] w fun e w'=>e=.returned (.bool (U.indic c))∧w=w':=by
 go_enter Tryz.func150,Tryz.ntmps150
 go_wp2_with (go_at_call 90;refine (Flow_any _ _).mono ?_;rintro e w' ⟨rfl,rfl⟩)
 all_goals go_ret
 all_goals
  refine ⟨congrArg (fun b:Bool=>Ending.returned (.bool b)) ?_,rfl⟩
  unfold U.indic
  rw[Bool.eq_iff_iff]
  simp at *
  try omega
theorem Indicator_is (q:Bool) (c:Int) (w:World) (h:U.indic c=q) :
  Calls Tryz.prog 150 #[.int .u8 c] w fun e w'=>e=.returned (.bool q)∧w=w':=by
 subst h;exact Indicator_any c w
set_option maxHeartbeats 400000 in
theorem Word_any (c:Int) (w:World) :
  Calls Tryz.prog 128 #[.int .u8 c] w fun e w'=>e=.returned (.bool (U.wordc c))∧w=w':=by
 go_enter Tryz.func128,Tryz.ntmps128
 go_wp2
 all_goals go_ret
 all_goals
  refine ⟨congrArg (fun b:Bool=>Ending.returned (.bool b)) ?_,rfl⟩
  unfold U.wordc
  rw[Bool.eq_iff_iff]
  simp at *
  try omega
set_option maxHeartbeats 1600000 in
theorem Uri_any (c:Int) (w:World) :
  Calls Tryz.prog 127 #[.int .u8 c] w fun e w'=>e=.returned (.bool (U.uri c))∧w=w':=by
 go_enter Tryz.func127,Tryz.ntmps127
 go_wp2_with (go_at_call 128;refine (Word_any _ _).mono ?_;rintro e w' ⟨rfl,rfl⟩)
 all_goals go_ret
 all_goals
  refine ⟨congrArg (fun b:Bool=>Ending.returned (.bool b)) ?_,rfl⟩
  unfold U.uri
  rw[Bool.eq_iff_iff]
  simp at *
  try omega
theorem Uri_is (q:Bool) (c:Int) (w:World) (h:U.uri c=q) :
  Calls Tryz.prog 127 #[.int .u8 c] w fun e w'=>e=.returned (.bool q)∧w=w':=by
 subst h;exact Uri_any c w
def endsB (s:ByteArray) (at':Int):Bool:=if at'<0∨(s.size:Int)≤at' then true else U.endc (byt s at'.toNat:Int)
theorem endsB_in (s:ByteArray) (k:Nat) (h:k<s.size):endsB s (k:Int)=U.endc (byt s k:Int):=by
 unfold endsB
 rw[if_neg (by omega)]
 rfl
theorem endsB_out (s:ByteArray) (at':Int) (h:at'<0∨(s.size:Int)≤at'):endsB s at'=true:=by
 unfold endsB
 rw[if_pos h]
def nameAt (s:ByteArray) (at':Int):Nat:=if at'<0 then 0 else U.nameL (s.data.toList.drop at'.toNat)
theorem nameAt_in (s:ByteArray) (k:Nat):nameAt s (k:Int)=U.nameL (s.data.toList.drop k):=by
 unfold nameAt
 rw[if_neg (by omega)]
 rfl
theorem nameAt_out (s:ByteArray) (at':Int) (h:at'<0∨(s.size:Int)≤at'):nameAt s at'=0:=by
 unfold nameAt
 split
 ·rfl
 ·rw[List.drop_eq_nil_of_le (by rw[←Lib.size_eq];omega)];rfl
theorem white_endc {b:Int}:U.endc b=(U.white b||b==10):=by
 unfold U.endc U.white
 rw[Bool.eq_iff_iff]
 simp
 omega
set_option maxHeartbeats 400000 in
theorem Ends_is (q:Bool) (s:ByteArray) (at':Int) (w:World) (_hs:s.size≤1099511627776) (h:endsB s at'=q) :
  Calls Tryz.prog 65 #[.string s,.int .i64 at'] w fun e w'=>e=.returned (.bool q)∧w=w':=by
 by_cases h1:at'<0
 ·rw[endsB_out s at' (.inl h1)] at h
  subst h
  go_enter Tryz.func65,Tryz.ntmps65
  go_wp2
  go_ret
  exact ⟨rfl,rfl⟩
 by_cases h2:(s.size:Int)≤at'
 ·rw[endsB_out s at' (.inr h2)] at h
  subst h
  go_enter Tryz.func65,Tryz.ntmps65
  go_wp2
  go_ret
  exact ⟨rfl,rfl⟩
 obtain ⟨k,rfl⟩:∃ k:Nat,at'=(k:Int):=⟨at'.toNat,by omega⟩
 have hk:k<s.size:=by omega
 rw[endsB_in s k hk] at h
 have hi:=run_byt s k hk _ rfl
 obtain ⟨b,hb⟩:∃ b:Nat,b=byt s k:=⟨_,rfl⟩
 rw[←hb] at h hi
 rw[white_endc] at h
 clear hb h1 h2
 have HQ:=Lib.hid h
 clear h
 cases h10:((b:Int)==10) with
 | true=>
  have F:=Lib.hid (show q=true by rw[←HQ.out,h10];simp)
  go_enter Tryz.func65,Tryz.ntmps65
  go_wp2
  go_ret
  exact ⟨by rw[F.out];rfl,rfl⟩
 | false=>
  have F:=Lib.hid (show U.white (b:Int)=q by rw[←HQ.out,h10];simp)
  go_enter Tryz.func65,Tryz.ntmps65
  go_wp2_with (go_at_call 57;refine (White_is q _ _ F.out).mono ?_;rintro e w' ⟨rfl,rfl⟩)
  go_ret
  exact ⟨rfl,rfl⟩
theorem name_stop (s:ByteArray) (e:Nat) (h:e<s.size) (hb:U.endc (byt s e:Int)=true∨U.flow (byt s e:Int)=true):U.nameL (s.data.toList.drop e)=0:=by
 obtain ⟨b,hd,hb2⟩:=drop_byte s e h
 rw[hd,U.nameL_cons,if_neg]
 unfold U.keeps
 rw[hb2]
 rcases hb with hb|hb <;> simp[hb]
theorem name_go (s:ByteArray) (e:Nat) (h:e<s.size) (h1:U.endc (byt s e:Int)=false) (h2:U.flow (byt s e:Int)=false):U.nameL (s.data.toList.drop e)=U.nameL (s.data.toList.drop (e+1))+1:=by
 obtain ⟨b,hd,hb2⟩:=drop_byte s e h
 rw[hd,U.nameL_cons,if_pos]
 unfold U.keeps
 rw[hb2,h1,h2]
 rfl
theorem name_over (s:ByteArray) (e:Nat) (h:¬ e<s.size):U.nameL (s.data.toList.drop e)=0:=by
 rw[List.drop_eq_nil_of_le (by rw[←Lib.size_eq];omega)];rfl
set_option maxHeartbeats 800000 in
theorem Name_is (n:Nat) (s:ByteArray) (at':Int) (w:World) (hs:s.size≤1099511627776) (h:nameAt s at'=n) :
  Calls Tryz.prog 86 #[.string s,.int .i64 at'] w fun e w'=>e=.returned (.int .i64 (n:Int))∧w=w':=by
 by_cases h1:at'<0∨(s.size:Int)≤at'
 ·rw[nameAt_out s at' h1] at h
  subst h
  have HE:=Lib.hid (endsB_out s at' h1)
  clear h1
  go_enter Tryz.func86,Tryz.ntmps86
  go_wp2
  refine wp_loop_rounds 1 ?_
  rw[rounds_succ]
  go_wp2_with (go_at_call 65;refine (Ends_is true s _ _ hs HE.out).mono ?_;rintro e w' ⟨rfl,rfl⟩)
  go_ret
  exact ⟨by simp,rfl⟩
 obtain ⟨p,rfl⟩:∃ p:Nat,at'=(p:Int):=⟨at'.toNat,by omega⟩
 have hp:p<s.size:=by omega
 rw[nameAt_in] at h
 clear h1
 have HN:=Lib.hid h
 clear h
 go_enter Tryz.func86,Tryz.ntmps86
 go_wp2
 go_loop [5] (fun i=>∃ e:Nat,i=.int .i64 (e:Int)∧p≤e∧e≤s.size∧Hid (U.nameL (s.data.toList.drop e)+(e-p)=n)) (fun i=>s.size-(intOf i).toNat)
 case atStart=>exact ⟨p,rfl,Nat.le_refl _,by omega,by show _=_;rw[HN.out];omega⟩
 case round=>
  obtain ⟨e,rfl,he1,he2,H⟩:=hrel
  by_cases hk:e<s.size
  ·have hi:=run_byt s e hk _ rfl
   have hin:=endsB_in s e hk
   have hst:=name_stop s e hk
   have hgo:=name_go s e hk
   have H2:=H.out
   obtain ⟨b,hb⟩:∃ b:Nat,b=byt s e:=⟨_,rfl⟩
   rw[←hb] at hi hin hst hgo
   clear hb
   cases hE:U.endc (b:Int) with
   | true=>
    rw[hE] at hin
    have HE:=Lib.hid hin
    rw[hst (.inl hE)] at H2
    have F:=Lib.hid (show ((e:Int)-(p:Int))=(n:Int) by omega)
    clear hin hst hgo H2 hE
    go_wp2_with (go_at_call 65;refine (Ends_is true s _ _ hs HE.out).mono ?_;rintro e w' ⟨rfl,rfl⟩)
    go_ret
    exact ⟨by rw[←F.out];rfl,rfl⟩
   | false=>
    rw[hE] at hin
    have HE:=Lib.hid hin
    cases hF:U.flow (b:Int) with
    | true=>
     have HF:=Lib.hid hF
     rw[hst (.inr hF)] at H2
     have F:=Lib.hid (show ((e:Int)-(p:Int))=(n:Int) by omega)
     clear hin hst hgo H2 hE hF
     go_wp2_with (first|(go_at_call 65;refine (Ends_is false s _ _ hs HE.out).mono ?_;rintro e w' ⟨rfl,rfl⟩)|(go_at_call 90;refine (Flow_is true _ _ HF.out).mono ?_;rintro e w' ⟨rfl,rfl⟩))
     go_ret
     exact ⟨by rw[←F.out];rfl,rfl⟩
    | false=>
     have HF:=Lib.hid hF
     rw[hgo hE hF] at H2
     have F:=Lib.hid H2
     clear hin hst hgo H2 hE hF
     go_wp2_with (first|(go_at_call 65;refine (Ends_is false s _ _ hs HE.out).mono ?_;rintro e w' ⟨rfl,rfl⟩)|(go_at_call 90;refine (Flow_is false _ _ HF.out).mono ?_;rintro e w' ⟨rfl,rfl⟩))
     go_round
     case rel=>exact ⟨e+1,by go_num,by omega,by omega,by show _=_;have:=F.out;omega⟩
     case measure=>simp[intOf];omega
  ·have HE:=Lib.hid (endsB_out s (e:Int) (.inr (by omega)))
   have H2:=H.out
   rw[name_over s e hk] at H2
   have F:=Lib.hid (show ((e:Int)-(p:Int))=(n:Int) by omega)
   clear H2
   go_wp2_with (go_at_call 65;refine (Ends_is true s _ _ hs HE.out).mono ?_;rintro e w' ⟨rfl,rfl⟩)
   go_ret
   exact ⟨by rw[←F.out];rfl,rfl⟩
end Go.Proofs.YthcmkpiajkbpnaaGreatDoor
namespace Go.Proofs.YthcmkpiajkbpnaaGreatDoor.U
def sfx (c:Int):Bool:=uri c&&!(decide (c=33))&&!(flow c)
def hx (b:UInt8):Bool:=decide (0≤cHexV b.toNat)
def pend (a:Nat):Nat:=if a=0 then 0 else 3-a
def tR (p:Int→Bool):Nat→List UInt8→Nat
 | _,[]=>0
 | 0,b :: l=>if p (b.toNat:Int)=true then (if b.toNat=37 then tR p 2 l else tR p 0 l+1) else 0
 | 1,b :: l=>if hx b=true then tR p 0 l+3 else 0
 | n+2,b :: l=>if hx b=true then tR p (n+1) l else 0
def tHand (l:List UInt8):Nat × Nat:=
 if (l.drop (tR wordc 0 l)).headD 0=33∧0<tR sfx 0 (l.drop (tR wordc 0 l+1)) then (tR wordc 0 l+2,tR sfx 0 (l.drop (tR wordc 0 l+1))) else (1,tR sfx 0 l)
def tBrac:List UInt8→Nat
 | []=>0
 | b :: m=>if b.toNat=60∧0<tR uri 0 m∧(m.drop (tR uri 0 m)).headD 0=62 then tR uri 0 m+3 else 0
def tSize:List UInt8→Nat
 | []=>0
 | b :: l=>if b.toNat=33 then (if 0<tBrac l then tBrac l else (tHand l).1+(tHand l).2) else 0
theorem tR_nil (p:Int→Bool) (a:Nat):tR p a []=0:=by cases a <;> rfl
theorem tR_zero (p:Int→Bool) (b:UInt8) (l:List UInt8):tR p 0 (b :: l)=if p (b.toNat:Int)=true then (if b.toNat=37 then tR p 2 l else tR p 0 l+1) else 0:=rfl
theorem tR_one (p:Int→Bool) (b:UInt8) (l:List UInt8):tR p 1 (b :: l)=if hx b=true then tR p 0 l+3 else 0:=rfl
theorem tR_two (p:Int→Bool) (b:UInt8) (l:List UInt8):tR p 2 (b :: l)=if hx b=true then tR p 1 l else 0:=rfl
theorem pend0:pend 0=0:=rfl
theorem pend1:pend 1=2:=rfl
theorem pend2:pend 2=1:=rfl
theorem three_of (a:Nat) (h:a≤2):a=0∨a=1∨a=2:=by omega
theorem tR_le (p:Int→Bool):∀ (l:List UInt8) (a:Nat),a≤2→tR p a l≤l.length+pend a:=by
 intro l
 induction l with
 | nil=>intro a _;rw[tR_nil];omega
 | cons b l ih=>
  intro a ha
  have h0:=ih 0 (by omega)
  have h1:=ih 1 (by omega)
  have h2:=ih 2 (by omega)
  rw[pend0] at h0
  rw[pend1] at h1
  rw[pend2] at h2
  rcases three_of a ha with rfl|rfl|rfl
  ·rw[tR_zero,pend0,List.length_cons]
   split
   ·split <;> omega
   ·omega
  ·rw[tR_one,pend1,List.length_cons];split <;> omega
  ·rw[tR_two,pend2,List.length_cons];split <;> omega
theorem tR_le0 (p:Int→Bool) (l:List UInt8):tR p 0 l≤l.length:=tR_le p l 0 (by omega)
def stops (p:Int→Bool) (r:List UInt8):Prop:=∀ b r',r=b :: r'→p (b.toNat:Int)=false
theorem tR_stop (p:Int→Bool) (r:List UInt8) (h:stops p r):tR p 0 r=0:=by
 cases r with
 | nil=>rfl
 | cons b r=>rw[tR_zero,if_neg (by simp[h b r rfl])]
theorem tR_take (p:Int→Bool) (r:List UInt8) (hr:stops p r):∀ (l:List UInt8) (a:Nat),a≤2→(a=0∨tR p a l≠0)→tR p a (l.take (tR p a l-pend a)++r)=tR p a l:=by
 intro l
 induction l with
 | nil=>
  intro a ha h
  rcases h with rfl|h
  ·simpa [tR_nil] using tR_stop p r hr
  ·exact absurd (tR_nil p a) h
 | cons b l ih=>
  intro a ha h
  have h0:=ih 0 (by omega) (.inl rfl)
  rw[pend0,Nat.sub_zero] at h0
  have h1:=ih 1 (by omega)
  have h2:=ih 2 (by omega)
  rw[pend1] at h1
  rw[pend2] at h2
  rcases three_of a ha with rfl|rfl|rfl
  ·rw[pend0,Nat.sub_zero]
   by_cases hp:p (b.toNat:Int)=true
   ·by_cases hb:b.toNat=37
    ·have e:tR p 0 (b :: l)=tR p 2 l:=by rw[tR_zero,if_pos hp,if_pos hb]
     rw[e]
     by_cases hz:tR p 2 l=0
     ·rw[hz];simpa using tR_stop p r hr
     ·obtain ⟨m,hm⟩:∃ m,tR p 2 l=m+1:=⟨tR p 2 l-1,by omega⟩
      have h2:=h2 (.inr hz)
      rw[hm,Nat.add_sub_cancel] at h2
      rw[hm,List.take_succ_cons,List.cons_append,tR_zero,if_pos hp,if_pos hb,h2]
    ·have e:tR p 0 (b :: l)=tR p 0 l+1:=by rw[tR_zero,if_pos hp,if_neg hb]
     rw[e,List.take_succ_cons,List.cons_append,tR_zero,if_pos hp,if_neg hb,h0]
   ·have e:tR p 0 (b :: l)=0:=by rw[tR_zero,if_neg hp]
    rw[e];simpa using tR_stop p r hr
  ·rcases h with h|h
   ·omega
   ·by_cases hb:hx b=true
    ·have e:tR p 1 (b :: l)=tR p 0 l+3:=by rw[tR_one,if_pos hb]
     rw[e,pend1,show tR p 0 l+3-2=tR p 0 l+1 by omega,List.take_succ_cons,List.cons_append,tR_one,if_pos hb,h0]
    ·exact absurd (by rw[tR_one,if_neg hb]) h
  ·rcases h with h|h
   ·omega
   ·by_cases hb:hx b=true
    ·have e:tR p 2 (b :: l)=tR p 1 l:=by rw[tR_two,if_pos hb]
     rw[e] at h ⊢
     have h1:=h1 (.inr h)
     have h3:3≤tR p 1 l:=by
      cases l with
      | nil=>exact absurd (tR_nil p 1) h
      | cons c l=>rw[tR_one] at h ⊢;split at h <;> simp_all
     rw[pend2,show tR p 1 l-1=tR p 1 l-2+1 by omega,List.take_succ_cons,List.cons_append,tR_two,if_pos hb,h1]
    ·exact absurd (by rw[tR_two,if_neg hb]) h
theorem tR_take0 (p:Int→Bool) (l r:List UInt8) (hr:stops p r):tR p 0 (l.take (tR p 0 l)++r)=tR p 0 l:=by
 have:=tR_take p r hr l 0 (by omega) (.inl rfl)
 rwa [pend0,Nat.sub_zero] at this
theorem hx_iff (b:UInt8):hx b=true↔0≤cHexV b.toNat:=by unfold hx;simp
theorem hx_range {b:UInt8} (h:hx b=true):(48≤b.toNat∧b.toNat≤57)∨(97≤b.toNat∧b.toNat≤102)∨(65≤b.toNat∧b.toNat≤70):=by
 rw[hx_iff] at h
 unfold cHexV at h
 split at h
 ·omega
 ·split at h
  ·omega
  ·split at h <;> omega
theorem hexV_le (c:Nat):-1≤cHexV c∧cHexV c≤15:=by
 unfold cHexV
 split
 ·omega
 ·split
  ·omega
  ·split <;> omega
theorem hexV_great (c:Nat) (h:128≤c):cHexV c=-1:=by
 unfold cHexV
 rw[if_neg (by omega),if_neg (by omega),if_neg (by omega)]
theorem sfx_parts {c:Int} (h:sfx c=true):uri c=true∧c≠33∧flow c=false:=by
 unfold sfx at h
 simp at h
 exact ⟨h.1.1,h.1.2,h.2⟩
theorem uri_ascii {c:Int} (h:uri c=true):32<c∧c<128:=by
 unfold uri at h
 simp only[decide_eq_true_eq] at h
 unfold wordc at h
 simp only[decide_eq_true_eq] at h
 omega
theorem wordc_ascii {c:Int} (h:wordc c=true):32<c∧c<128∧c≠37:=by
 unfold wordc at h
 simp only[decide_eq_true_eq] at h
 omega
theorem sfx_ascii {c:Int} (h:sfx c=true):32<c∧c<128:=uri_ascii (sfx_parts h).1
theorem sfx_no33:∀ (l:List UInt8) (a:Nat),a≤2→∀ b∈l.take (tR sfx a l-pend a),b≠33:=by
 intro l
 induction l with
 | nil=>intro a ha b hb;simp at hb
 | cons c l ih=>
  intro a ha b hb
  have h0:=ih 0 (by omega)
  have h1:=ih 1 (by omega)
  have h2:=ih 2 (by omega)
  rw[pend0,Nat.sub_zero] at h0
  rw[pend1] at h1
  rw[pend2] at h2
  have key:∀ m,b∈(c :: l).take m→c≠33→(b∈l.take (m-1)→b≠33)→b≠33:=by
   intro m hm hc hi
   cases m with
   | zero=>simp at hm
   | succ m=>
    rw[List.take_succ_cons,List.mem_cons] at hm
    rcases hm with rfl|hm
    ·exact hc
    ·exact hi (by simpa using hm)
  rcases three_of a ha with rfl|rfl|rfl
  ·rw[tR_zero,pend0,Nat.sub_zero] at hb
   by_cases hp:sfx (c.toNat:Int)=true
   ·have hc:c≠33:=by rintro rfl;exact absurd hp (by decide)
    rw[if_pos hp] at hb
    split at hb
    ·exact key _ hb hc (h2 b)
    ·exact key _ hb hc (h0 b)
   ·rw[if_neg hp] at hb;simp at hb
  ·rw[tR_one,pend1] at hb
   by_cases hp:hx c=true
   ·have hc:c≠33:=by rintro rfl;exact absurd hp (by decide)
    rw[if_pos hp] at hb
    exact key _ hb hc (by simpa using h0 b)
   ·rw[if_neg hp] at hb;simp at hb
  ·rw[tR_two,pend2] at hb
   by_cases hp:hx c=true
   ·have hc:c≠33:=by rintro rfl;exact absurd hp (by decide)
    rw[if_pos hp] at hb
    exact key _ hb hc (by rw[Nat.sub_sub];exact h1 b)
   ·rw[if_neg hp] at hb;simp at hb
theorem tHand_le (l:List UInt8):1≤(tHand l).1∧(tHand l).1+(tHand l).2≤l.length+1:=by
 unfold tHand
 split
 ·rename_i h
  have h1:=tR_le0 sfx (l.drop (tR wordc 0 l+1))
  have h2:=tR_le0 wordc l
  rw[List.length_drop] at h1
  refine ⟨by omega,?_⟩
  show tR wordc 0 l+2+tR sfx 0 (l.drop (tR wordc 0 l+1))≤_
  omega
 ·have:=tR_le0 sfx l
  refine ⟨Nat.le_refl _,?_⟩
  show 1+tR sfx 0 l≤_
  omega
theorem headD_pos {l:List UInt8} {k:Nat} {c:UInt8} (hc:c≠0) (h:(l.drop k).headD 0=c):k<l.length∧l.drop k=c :: l.drop (k+1):=by
 by_cases hk:k<l.length
 ·refine ⟨hk,?_⟩
  have e:=List.drop_eq_getElem_cons hk
  rw[e] at h
  rw[e]
  have h2:l[k]=c:=h
  rw[h2]
 ·rw[List.drop_eq_nil_of_le (by omega)] at h
  exact absurd h.symm hc
theorem tBrac_cons (b:UInt8) (m:List UInt8):tBrac (b :: m)=if b.toNat=60∧0<tR uri 0 m∧(m.drop (tR uri 0 m)).headD 0=62 then tR uri 0 m+3 else 0:=rfl
theorem tBrac_le (l:List UInt8):tBrac l≤l.length+1:=by
 cases l with
 | nil=>simp[tBrac]
 | cons b m=>
  rw[tBrac_cons]
  split
  ·rename_i h
   have:=(headD_pos (by decide) h.2.2).1
   simp only[List.length_cons];omega
  ·omega
theorem tSize_cons (b:UInt8) (l:List UInt8):tSize (b :: l)=if b.toNat=33 then (if 0<tBrac l then tBrac l else (tHand l).1+(tHand l).2) else 0:=rfl
theorem tSize_le (l:List UInt8):tSize l≤l.length:=by
 cases l with
 | nil=>exact Nat.le_refl _
 | cons b l=>
  rw[tSize_cons]
  have h1:=tBrac_le l
  have h2:=(tHand_le l).2
  rw[List.length_cons]
  split
  ·split <;> omega
  ·omega
theorem tHand_other (l:List UInt8) (h:(l.headD 0)=60):tHand l=(1,0):=by
 cases l with
 | nil=>simp at h
 | cons b m=>
  have hb:b=60:=h
  subst hb
  have hw:tR wordc 0 (60 :: m)=0:=by rw[tR_zero,if_neg (by decide)]
  have hs:tR sfx 0 (60 :: m)=0:=by rw[tR_zero,if_neg (by decide)]
  unfold tHand
  rw[hw,hs,List.drop_zero,if_neg (by intro h;exact absurd h.1 (by simp))]
theorem tBrac_head {l:List UInt8} (h:0<tBrac l):l.headD 0=60:=by
 cases l with
 | nil=>simp[tBrac] at h
 | cons b m=>
  rw[tBrac_cons] at h
  split at h
  ·rename_i h2
   exact UInt8.toNat_inj.1 h2.1
  ·omega
end Go.Proofs.YthcmkpiajkbpnaaGreatDoor.U
namespace Go.Proofs.YthcmkpiajkbpnaaGreatDoor
open Go.RowKit
theorem run_ex (P:Nat→Prop) [DecidablePred P]:∀ n a b:Nat,b-a≤n→a≤b→∃ p,a≤p∧p≤b∧(∀ j,j<p→a≤j→P j)∧(p=b∨¬ P p)
 | 0,a,b,h,h2=>⟨a,Nat.le_refl _,h2,fun j h3 h4=>by omega,.inl (by omega)⟩
 | n+1,a,b,h,h2=>by
  by_cases hab:a=b
  ·exact ⟨a,Nat.le_refl _,h2,fun j h3 h4=>by omega,.inl hab⟩
  ·by_cases hP:P a
   ·obtain ⟨p,h3,h4,h5,h6⟩:=run_ex P n (a+1) b (by omega) (by omega)
    refine ⟨p,by omega,h4,fun j h7 h8=>?_,h6⟩
    by_cases hj:j=a
    ·subst hj;exact hP
    ·exact h5 j h7 (by omega)
   ·exact ⟨a,Nat.le_refl _,h2,fun j h3 h4=>by omega,.inr hP⟩
theorem run_back (P:Nat→Prop) [DecidablePred P]:∀ c:Nat,∃ a,a≤c∧(∀ j,j<c→a≤j→P j)∧(a=0∨(0<a∧¬ P (a-1)))
 | 0=>⟨0,Nat.le_refl _,fun j h=>by omega,.inl rfl⟩
 | c+1=>by
  by_cases h:P c
  ·obtain ⟨a,h1,h2,h3⟩:=run_back P c
   refine ⟨a,by omega,fun j h4 h5=>?_,h3⟩
   by_cases h6:j=c
   ·subst h6;exact h
   ·exact h2 j (by omega) h5
  ·exact ⟨c+1,Nat.le_refl _,fun j h1 h2=>by omega,.inr ⟨by omega,by simpa using h⟩⟩
def RowB (s:ByteArray) (c a:Nat):Prop:=a≤c∧(∀ j,j<c→a≤j→byt s j≠10)∧(a=0∨byt s (a-1)=10)
def RowE (s:ByteArray) (c b:Nat):Prop:=c≤b∧b≤s.size∧(∀ j,j<b→c≤j→byt s j≠10)∧(b=s.size∨byt s b=10)
def InN (s:ByteArray) (a b n:Nat):Prop:=a+n≤b∧(∀ j,j<n→byt s (a+j)=32)∧(a+n=b∨byt s (a+n)≠32)
def FirN (s:ByteArray) (a b p:Nat):Prop:=a≤p∧p≤b∧(∀ j,j<p→a≤j→U.white (byt s j:Int)=true)∧(p=b∨U.white (byt s p:Int)=false)
instance (s:ByteArray) (c a:Nat):Decidable (RowB s c a):=by unfold RowB;infer_instance
instance (s:ByteArray) (c a:Nat):Decidable (RowE s c a):=by unfold RowE;infer_instance
instance (s:ByteArray) (a b n:Nat):Decidable (InN s a b n):=by unfold InN;infer_instance
instance (s:ByteArray) (a b p:Nat):Decidable (FirN s a b p):=by unfold FirN;infer_instance
theorem RowB.ex (s:ByteArray) (c:Nat):∃ a,RowB s c a:=by
 obtain ⟨a,h1,h2,h3⟩:=run_back (fun j=>byt s j≠10) c
 refine ⟨a,h1,h2,?_⟩
 rcases h3 with h3|h3
 ·exact .inl h3
 ·exact .inr (by have:=h3.2;simpa using this)
theorem RowE.ex (s:ByteArray) (c:Nat) (h:c≤s.size):∃ b,RowE s c b:=by
 obtain ⟨b,h1,h2,h3,h4⟩:=run_ex (fun j=>byt s j≠10) _ c s.size (Nat.le_refl _) h
 refine ⟨b,h1,h2,h3,?_⟩
 rcases h4 with h4|h4
 ·exact .inl h4
 ·exact .inr (by simpa using h4)
theorem InN.ex (s:ByteArray) (a b:Nat) (h:a≤b):∃ n,InN s a b n:=by
 obtain ⟨p,h1,h2,h3,h4⟩:=run_ex (fun j=>byt s j=32) _ a b (Nat.le_refl _) h
 refine ⟨p-a,by omega,fun j hj=>h3 _ (by omega) (by omega),?_⟩
 rw[show a+(p-a)=p from by omega]
 exact h4
theorem FirN.ex (s:ByteArray) (a b:Nat) (h:a≤b):∃ p,FirN s a b p:=by
 obtain ⟨p,h1,h2,h3,h4⟩:=run_ex (fun j=>U.white (byt s j:Int)=true) _ a b (Nat.le_refl _) h
 exact ⟨p,h1,h2,h3,by simpa using h4⟩
theorem RowB.uniq {s:ByteArray} {c a a':Nat} (h:RowB s c a) (h':RowB s c a'):a=a':=by
 obtain ⟨h1,h2,h3⟩:=h
 obtain ⟨k1,k2,k3⟩:=h'
 rcases Nat.lt_trichotomy a a' with h|h|h
 ·rcases k3 with k3|k3
  ·omega
  ·exact absurd k3 (h2 (a'-1) (by omega) (by omega))
 ·exact h
 ·rcases h3 with h3|h3
  ·omega
  ·exact absurd h3 (k2 (a-1) (by omega) (by omega))
theorem RowE.uniq {s:ByteArray} {c b b':Nat} (h:RowE s c b) (h':RowE s c b'):b=b':=by
 obtain ⟨h1,h2,h3,h4⟩:=h
 obtain ⟨k1,k2,k3,k4⟩:=h'
 rcases Nat.lt_trichotomy b b' with h|h|h
 ·rcases h4 with h4|h4
  ·omega
  ·exact absurd h4 (k3 b (by omega) (by omega))
 ·exact h
 ·rcases k4 with k4|k4
  ·omega
  ·exact absurd k4 (h3 b' (by omega) (by omega))
theorem FirN.uniq {s:ByteArray} {a b p p':Nat} (h:FirN s a b p) (h':FirN s a b p'):p=p':=by
 obtain ⟨h1,h2,h3,h4⟩:=h
 obtain ⟨k1,k2,k3,k4⟩:=h'
 rcases Nat.lt_trichotomy p p' with h|h|h
 ·rcases h4 with h4|h4
  ·omega
  ·have:=k3 p (by omega) (by omega);rw[h4] at this;cases this
 ·exact h
 ·rcases k4 with k4|k4
  ·omega
  ·have:=h3 p' (by omega) (by omega);rw[k4] at this;cases this
theorem RowB.within {s:ByteArray} {c a b p:Nat} (h:RowB s c a) (h':RowE s c b) (h1:a≤p) (h2:p≤b):RowB s p a:=by
 refine ⟨h1,fun j hj ha=>?_,h.2.2⟩
 by_cases hjc:j<c
 ·exact h.2.1 j hjc ha
 ·exact h'.2.2.1 j (by omega) (by omega)
theorem RowE.within {s:ByteArray} {c a b p:Nat} (h:RowE s c b) (h':RowB s c a) (h1:a≤p) (h2:p≤b):RowE s p b:=by
 refine ⟨h2,h.2.1,fun j hj ha=>?_,h.2.2.2⟩
 by_cases hjc:j<c
 ·exact h'.2.1 j hjc (by omega)
 ·exact h.2.2.1 j hj (by omega)
def mk3 (s:ByteArray) (a b ch:Nat):Bool:=decide (a+3≤b∧byt s a=ch∧byt s (a+1)=ch∧byt s (a+2)=ch∧(a+3=b∨U.white (byt s (a+3):Int)=true))
def kindN (s:ByteArray) (a b p:Nat):Int:=if mk3 s a b 45=true then 3 else if mk3 s a b 46=true then 4 else if p=b then 1 else if byt s p=35 then 2 else 5
def lfs (s:ByteArray):Nat→Nat
 | 0=>0
 | c+1=>lfs s c+(if byt s c=10 then 1 else 0)
theorem lfs_lf {s:ByteArray} {c:Nat} (h:byt s c=10):lfs s (c+1)=lfs s c+1:=by rw[lfs,if_pos h]
theorem lfs_other {s:ByteArray} {c:Nat} (h:byt s c≠10):lfs s (c+1)=lfs s c:=by rw[lfs,if_neg h,Nat.add_zero]
def wl (b:Nat):Bool:=decide (b=10)||U.white (b:Int)
def Abv (s:ByteArray) (c k n:Nat):Prop:=k≤c∧(∀ j,j<c→k≤j→wl (byt s j)=true)∧((k=0∧n=lfs s c)∨(0<k∧wl (byt s (k-1))=false∧n=lfs s c-lfs s k-1))
instance (s:ByteArray) (c k n:Nat):Decidable (Abv s c k n):=by unfold Abv;infer_instance
theorem Abv.ex (s:ByteArray) (c:Nat):∃ k n,Abv s c k n:=by
 obtain ⟨k,h1,h2,h3⟩:=run_back (fun j=>wl (byt s j)=true) c
 rcases h3 with h3|⟨h3,h4⟩
 ·exact ⟨k,_,h1,h2,.inl ⟨h3,rfl⟩⟩
 ·exact ⟨k,_,h1,h2,.inr ⟨h3,by simpa using h4,rfl⟩⟩
end Go.Proofs.YthcmkpiajkbpnaaGreatDoor
namespace Go.Proofs.YthcmkpiajkbpnaaGreatDoor.U
def feeds (n:Nat):List UInt8:=List.replicate n 10
theorem feeds_zero:feeds 0=[]:=rfl
theorem feeds_succ (n:Nat):feeds (n+1)=feeds n++[10]:=List.replicate_succ'
theorem feeds_length (n:Nat):(feeds n).length=n:=List.length_replicate
def sep (n:Nat):List UInt8:=if n=0 then [32] else feeds n
theorem sep_pos {n:Nat} (h:n≠0):sep n=feeds n:=if_neg h
theorem sep_length (n:Nat):(sep n).length≤n+1:=by
 unfold sep
 split
 ·simp
 ·rw[feeds_length];omega
def tot:List (List UInt8)→Nat
 | []=>0
 | r :: t=>r.length+1+tot t
theorem tot_append:∀ a b:List (List UInt8),tot (a++b)=tot a+tot b
 | [],b=>by simp[tot]
 | r :: a,b=>by rw[List.cons_append,tot,tot,tot_append a b];omega
def flowGo:Nat→List (List UInt8)→List UInt8
 | _,[]=>[]
 | n,r :: t=>if r=[]∧t≠[] then flowGo (n+1) t else sep n++r++flowGo 0 t
def flowT:List (List UInt8)→List UInt8
 | []=>[]
 | r :: t=>r++flowGo 0 t
theorem flowGo_nil (n:Nat):flowGo n []=[]:=by rw[flowGo]
theorem flowGo_blank (n:Nat) {t:List (List UInt8)} (h:t≠[]):flowGo n ([] :: t)=flowGo (n+1) t:=by
 rw[flowGo,if_pos ⟨rfl,h⟩]
theorem flowGo_row (n:Nat) {r:List UInt8} {t:List (List UInt8)} (h:¬ (r=[]∧t≠[])):flowGo n (r :: t)=sep n++r++flowGo 0 t:=by
 rw[flowGo,if_neg h]
def joinGo:List (List UInt8)→List UInt8
 | []=>[]
 | r :: t=>10 :: (r++joinGo t)
def joinT:List (List UInt8)→List UInt8
 | []=>[]
 | r :: t=>r++joinGo t
def whiteL:List UInt8→Bool
 | []=>false
 | b :: _=>white (b.toNat:Int)
def bsep (last r:List UInt8) (n:Nat):List UInt8:=if last=[] then feeds n else if (whiteL last||whiteL r)=true then feeds (n+1) else sep n
def blkGo:List UInt8→Nat→List (List UInt8)→List UInt8
 | last,n,[]=>feeds (if last=[] then n-1 else n)
 | last,n,r :: t=>if r=[] then blkGo last (n+1) t else bsep last r n++r++blkGo r 0 t
def blkT (l:List (List UInt8)):List UInt8:=blkGo [] 0 l
def blockT (folded:Bool) (l:List (List UInt8)):List UInt8:=if folded=true then blkT l else joinT l
def blanksL (n:Nat):List (List UInt8):=List.replicate n []
end Go.Proofs.YthcmkpiajkbpnaaGreatDoor.U
