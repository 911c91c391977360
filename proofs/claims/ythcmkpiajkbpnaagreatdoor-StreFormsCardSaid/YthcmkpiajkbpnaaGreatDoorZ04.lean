/- Parts of the proof, put together from smaller texts (blanks that Lean does not want are struck). Conditions: those that each theorem writes out. -/
import Derived.Lib.AppendStr
import Derived.Lib.ConvBytes
import Derived.Lib.Join
import Derived.Lib.SlTrimSet
import Derived.Test.YthcmkpiajkbpnaaGreatDoorZ00
import Derived.Test.YthcmkpiajkbpnaaGreatDoorZ01
namespace Go.Proofs.YthcmkpiajkbpnaaGreatDoor.U
def wh (b:UInt8):Bool:=white (b.toNat:Int)
def nw (b:UInt8):Bool:=!wh b
def wordsC:List UInt8→List UInt8→List (List UInt8)
 | c,[]=>if c=[] then [] else [c]
 | c,b :: l=>if wh b=true then (if c=[] then wordsC [] l else c :: wordsC [] l) else wordsC (c++[b]) l
def tWords (l:List UInt8):List (List UInt8):=wordsC [] l
def tNote:Bool→List UInt8→List UInt8 × List UInt8
 | _,[]=>([],[])
 | p,b :: l=>if b=35∧p=true then ([],b :: l) else (b :: (tNote (wh b) l).1,(tNote (wh b) l).2)
def tWord:List UInt8→List UInt8 × List UInt8
 | []=>([],[])
 | b :: l=>if wh b=true then tWord l else if b=35 then ([],b :: l) else (b :: l.takeWhile nw,l.dropWhile nw)
def tCut (l:List UInt8):List UInt8:=Lib.trimRightS l [32,9]
def Edge (r:List UInt8):Prop:=∀ b r',r=b :: r'→wh b=true
theorem wordsC_nil (c:List UInt8):wordsC c []=if c=[] then [] else [c]:=rfl
theorem wordsC_cons (c:List UInt8) (b:UInt8) (l:List UInt8):wordsC c (b :: l)=if wh b=true then (if c=[] then wordsC [] l else c :: wordsC [] l) else wordsC (c++[b]) l:=rfl
theorem tNote_cons (p:Bool) (b:UInt8) (l:List UInt8):tNote p (b :: l)=if b=35∧p=true then ([],b :: l) else (b :: (tNote (wh b) l).1,(tNote (wh b) l).2):=rfl
theorem tWord_cons (b:UInt8) (l:List UInt8):tWord (b :: l)=if wh b=true then tWord l else if b=35 then ([],b :: l) else (b :: l.takeWhile nw,l.dropWhile nw):=rfl
theorem wh_iff (b:UInt8):wh b=true↔b=32∨b=9:=by
 unfold wh white
 rw[decide_eq_true_eq]
 constructor
 ·rintro (h|h)
  ·exact .inl (UInt8.toNat_inj.1 (by simpa using (by omega:b.toNat=32)))
  ·exact .inr (UInt8.toNat_inj.1 (by simpa using (by omega:b.toNat=9)))
 ·rintro (rfl|rfl)
  ·exact .inl rfl
  ·exact .inr rfl
theorem wh_ne35 {b:UInt8} (h:wh b=true):b≠35:=by
 rcases (wh_iff b).1 h with rfl|rfl <;> decide
theorem wh_high {b:UInt8} (h:128≤b.toNat):wh b=false:=by
 cases hb:wh b with
 | false=>rfl
 | true=>rcases (wh_iff b).1 hb with rfl|rfl <;> exact absurd h (by decide)
theorem nw_iff (b:UInt8):nw b=true↔wh b=false:=by unfold nw;cases wh b <;> decide
theorem edge_nil:Edge []:=fun b r e=>absurd e (by simp)
theorem edge_drop (l:List UInt8):Edge (l.dropWhile nw):=by
 intro b r e
 induction l with
 | nil=>exact absurd e (by simp)
 | cons c l ih=>
  rw[List.dropWhile_cons] at e
  split at e
  ·exact ih e
  ·next h=>
   obtain ⟨rfl,_⟩:=List.cons.inj e
   unfold nw at h
   cases hc:wh c with
   | true=>rfl
   | false=>rw[hc] at h;exact absurd rfl h
theorem run_take (l:List UInt8):∀ b∈l.takeWhile nw,wh b=false:=by
 induction l with
 | nil=>intro b hb;simp at hb
 | cons c l ih=>
  intro b hb
  rw[List.takeWhile_cons] at hb
  split at hb
  ·next h=>
   rcases List.mem_cons.1 hb with rfl|hb
   ·exact (nw_iff b).1 h
   ·exact ih b hb
  ·simp at hb
theorem wordsC_run:∀ (t c:List UInt8),(∀ b∈t,wh b=false)→∀ r,wordsC c (t++r)=wordsC (c++t) r:=by
 intro t
 induction t with
 | nil=>intro c _ r;simp
 | cons b t ih=>
  intro c h r
  rw[List.cons_append,wordsC_cons,if_neg (by rw[h b List.mem_cons_self];decide),ih _ (fun x hx=>h x (List.mem_cons_of_mem _ hx)),List.append_assoc]
  rfl
theorem wordsC_end {c r:List UInt8} (hc:c≠[]) (hr:Edge r):wordsC c r=c :: wordsC [] r:=by
 cases r with
 | nil=>rw[wordsC_nil,if_neg hc,wordsC_nil,if_pos rfl]
 | cons b r=>
  have hb:=hr b r rfl
  rw[wordsC_cons,if_pos hb,if_neg hc,wordsC_cons,if_pos hb,if_pos rfl]
theorem note_run:∀ (t:List UInt8),(∀ b∈t,wh b=false)→∀ r,tNote false (t++r)=(t++(tNote false r).1,(tNote false r).2):=by
 intro t
 induction t with
 | nil=>intro _ r;rfl
 | cons b t ih=>
  intro h r
  rw[List.cons_append,tNote_cons,if_neg (by simp),h b List.mem_cons_self,ih (fun x hx=>h x (List.mem_cons_of_mem _ hx))]
  rfl
theorem note_edge {r:List UInt8} (hr:Edge r) (p q:Bool):tNote p r=tNote q r:=by
 cases r with
 | nil=>rfl
 | cons b r=>
  have hb:=wh_ne35 (hr b r rfl)
  rw[tNote_cons,tNote_cons,if_neg (fun h=>hb h.1),if_neg (fun h=>hb h.1)]
theorem note_edge1 {r:List UInt8} (hr:Edge r) (p:Bool):Edge (tNote p r).1:=by
 cases r with
 | nil=>exact edge_nil
 | cons b r=>
  have hb:=hr b r rfl
  rw[tNote_cons,if_neg (fun h=>wh_ne35 hb h.1)]
  intro c r' e
  obtain ⟨rfl,_⟩:=List.cons.inj e
  exact hb
theorem note_cat:∀ (l:List UInt8) (p:Bool),(tNote p l).1++(tNote p l).2=l:=by
 intro l
 induction l with
 | nil=>intro p;rfl
 | cons b l ih=>
  intro p
  rw[tNote_cons]
  split
  ·rfl
  ·rw[List.cons_append,ih]
theorem note_head:∀ (l:List UInt8) (p:Bool),(tNote p l).2=[]∨∃ r,(tNote p l).2=35 :: r:=by
 intro l
 induction l with
 | nil=>intro p;exact .inl rfl
 | cons b l ih=>
  intro p
  rw[tNote_cons]
  split
  ·next h=>exact .inr ⟨l,by rw[h.1]⟩
  ·exact ih _
theorem split_step:∀ (l f r:List UInt8),tWord l=(f,r) →
  (f=[]→tWords (tNote true l).1=[]∧(tNote true l).2=r) ∧
  (f≠[]→tWords (tNote true l).1=f :: tWords (tNote true r).1∧(tNote true l).2=(tNote true r).2∧r.length<l.length):=by
 intro l
 induction l with
 | nil=>
  intro f r h
  obtain ⟨rfl,rfl⟩:=Prod.mk.inj h
  exact ⟨fun _=>⟨rfl,rfl⟩,fun h=>absurd rfl h⟩
 | cons b l ih=>
  intro f r h
  rw[tWord_cons] at h
  by_cases hw:wh b=true
  ·rw[if_pos hw] at h
   obtain ⟨h1,h2⟩:=ih f r h
   have e:tNote true (b :: l)=(b :: (tNote true l).1,(tNote true l).2):=by
    rw[tNote_cons,if_neg (fun h=>wh_ne35 hw h.1),hw]
   have e2:tWords (tNote true (b :: l)).1=tWords (tNote true l).1:=by
    rw[e]
    show wordsC [] (b :: _)=_
    rw[wordsC_cons,if_pos hw,if_pos rfl]
    rfl
   rw[e2,e]
   exact ⟨h1,fun hf=>⟨(h2 hf).1,(h2 hf).2.1,by have:=(h2 hf).2.2;simp only[List.length_cons];omega⟩⟩
  ·rw[if_neg hw] at h
   by_cases hs:b=35
   ·rw[if_pos hs] at h
    obtain ⟨rfl,rfl⟩:=Prod.mk.inj h
    subst hs
    exact ⟨fun _=>⟨rfl,rfl⟩,fun h=>absurd rfl h⟩
   ·rw[if_neg hs] at h
    obtain ⟨rfl,rfl⟩:=Prod.mk.inj h
    refine ⟨fun h=>absurd h (by simp),fun _=>?_⟩
    have hw0:wh b=false:=by simpa using hw
    have hE:=edge_drop l
    have hl:l=l.takeWhile nw++l.dropWhile nw:=(List.takeWhile_append_dropWhile).symm
    have e:tNote true (b :: l)=(b :: (l.takeWhile nw++(tNote true (l.dropWhile nw)).1),(tNote true (l.dropWhile nw)).2):=by
     rw[tNote_cons,if_neg (fun h=>hs h.1),hw0]
     conv=>lhs;rw[hl]
     rw[note_run _ (run_take l),note_edge hE false true]
    rw[e]
    refine ⟨?_,rfl,?_⟩
    ·show wordsC [] (b :: _)=_
     rw[wordsC_cons,if_neg hw,wordsC_run _ _ (run_take l),wordsC_end (by simp) (note_edge1 hE true)]
     rfl
    ·have:=congrArg List.length hl
     rw[List.length_append] at this
     rw[List.length_cons]
     omega
def isWord (w:List UInt8):Prop:=w≠[]∧∀ b∈w,wh b=false
theorem words_are:∀ (l c:List UInt8),(∀ b∈c,wh b=false)→∀ w∈wordsC c l,isWord w:=by
 intro l
 induction l with
 | nil=>
  intro c hc w hw
  rw[wordsC_nil] at hw
  split at hw
  ·simp at hw
  ·next h=>
   rw[List.mem_singleton] at hw
   subst hw
   exact ⟨h,hc⟩
 | cons b l ih=>
  intro c hc w hw
  rw[wordsC_cons] at hw
  split at hw
  ·split at hw
   ·exact ih [] (by simp) w hw
   ·next h=>
    rcases List.mem_cons.1 hw with rfl|hw
    ·exact ⟨h,hc⟩
    ·exact ih [] (by simp) w hw
  ·next h=>
   refine ih _ ?_ w hw
   intro x hx
   rcases List.mem_append.1 hx with hx|hx
   ·exact hc x hx
   ·rw[List.mem_singleton] at hx
    subst hx
    simpa using h
theorem words_word (l:List UInt8):∀ w∈tWords l,isWord w:=words_are l [] (by simp)
theorem words_len:∀ (l c:List UInt8),(Lib.join (wordsC c l) [32]).length≤c.length+l.length:=by
 intro l
 induction l with
 | nil=>
  intro c
  rw[wordsC_nil]
  split
  ·simp[Lib.join_nil]
  ·rw[Lib.join_one];simp
 | cons b l ih=>
  intro c
  rw[wordsC_cons]
  split
  ·split
   ·have:=ih []
    simp only[List.length_nil,List.length_cons] at this ⊢
    omega
   ·have:=ih []
    cases hW:wordsC [] l with
    | nil=>rw[Lib.join_one];simp
    | cons x r=>
     rw[hW,Lib.join_cons] at this
     rw[Lib.join_cons]
     simp only[List.length_append,List.length_nil,List.length_cons,Lib.joinTail,List.map_cons,List.flatten_cons] at this ⊢
     omega
  ·have:=ih (c++[b])
   simp only[List.length_append,List.length_cons,List.length_nil] at this ⊢
   omega
theorem words_count:∀ (l c:List UInt8),(wordsC c l).length≤c.length+l.length:=by
 intro l
 induction l with
 | nil=>
  intro c
  rw[wordsC_nil]
  split
  ·simp
  ·next h=>
   have:=List.length_pos_iff.2 h
   simp
   omega
 | cons b l ih=>
  intro c
  rw[wordsC_cons]
  split
  ·split
   ·have:=ih []
    simp only[List.length_nil,List.length_cons] at this ⊢
    omega
   ·next h=>
    have:=ih []
    have h2:=List.length_pos_iff.2 h
    simp only[List.length_nil,List.length_cons] at this ⊢
    omega
  ·have:=ih (c++[b])
   simp only[List.length_append,List.length_cons,List.length_nil] at this ⊢
   omega
theorem cut_take (l:List UInt8) (k:Nat) (hk:k≤l.length) (h1:∀ (j:Nat) b,k≤j→l[j]?=some b→wh b=true) (h2:∀ b,0<k→l[k-1]?=some b→wh b=false):tCut l=l.take k:=by
 have hc:∀ b:UInt8,([32,9]:List UInt8).contains b=wh b:=by
  intro b
  rw[Bool.eq_iff_iff,wh_iff,List.contains_iff_mem]
  simp
 refine Lib.trimRightS_take l [32,9] k hk (fun j b hj hb=>?_) (fun b h0 hb=>?_)
 ·rw[hc];exact h1 j b hj hb
 ·rw[hc];exact h2 b h0 hb
theorem cut_len (l:List UInt8):(tCut l).length≤l.length:=by
 unfold tCut Lib.trimRightS
 rw[List.length_reverse]
 refine Nat.le_trans (List.dropWhile_sublist _).length_le ?_
 simp
def tLeft (l:List UInt8):List UInt8:=l.dropWhile wh
def tFst (l:List UInt8):List UInt8 × List UInt8:=((tLeft l).takeWhile nw,(tLeft l).dropWhile nw)
theorem left_white {b:UInt8} (l:List UInt8) (h:wh b=true):tLeft (b :: l)=tLeft l:=by
 unfold tLeft
 rw[List.dropWhile_cons,if_pos h]
theorem left_here {b:UInt8} (l:List UInt8) (h:wh b=false):tLeft (b :: l)=b :: l:=by
 unfold tLeft
 rw[List.dropWhile_cons,if_neg (by rw[h];decide)]
theorem left_head:∀ l:List UInt8,tLeft l=[]∨∃ b r,tLeft l=b :: r∧wh b=false:=by
 intro l
 induction l with
 | nil=>exact .inl rfl
 | cons b l ih=>
  cases h:wh b with
  | true=>rw[left_white l h];exact ih
  | false=>exact .inr ⟨b,l,left_here l h,h⟩
theorem left_left (l:List UInt8):tLeft (tLeft l)=tLeft l:=by
 rcases left_head l with h|⟨b,r,h,hb⟩
 ·rw[h];rfl
 ·rw[h,left_here r hb]
theorem left_len (l:List UInt8):(tLeft l).length≤l.length:=(List.dropWhile_sublist _).length_le
theorem fst_left (l:List UInt8):tFst (tLeft l)=tFst l:=by
 unfold tFst
 rw[left_left]
theorem fst_none {l:List UInt8} (h:tLeft l=[]):tFst l=([],[]):=by
 unfold tFst
 rw[h]
 rfl
theorem fst_some {l:List UInt8} {b:UInt8} {r:List UInt8} (h:tLeft l=b :: r) (hb:wh b=false):tFst l=(b :: r.takeWhile nw,r.dropWhile nw):=by
 unfold tFst
 rw[h,List.takeWhile_cons,if_pos ((nw_iff b).2 hb),List.dropWhile_cons,if_pos ((nw_iff b).2 hb)]
theorem fst_le (l:List UInt8):(tFst l).1.length+(tFst l).2.length≤l.length:=by
 have h1:=congrArg List.length (List.takeWhile_append_dropWhile (p:=nw) (l:=tLeft l))
 rw[List.length_append] at h1
 have h2:=left_len l
 show ((tLeft l).takeWhile nw).length+((tLeft l).dropWhile nw).length≤_
 omega
theorem word_note:∀ (l:List UInt8),(tLeft l=[]∨(tLeft l).headD 0=35)→tWord l=([],tLeft l):=by
 intro l
 induction l with
 | nil=>intro _;rfl
 | cons b l ih=>
  intro h
  rw[tWord_cons]
  cases hb:wh b with
  | true=>
   rw[left_white l hb] at h ⊢
   rw[if_pos rfl]
   exact ih h
  | false=>
   rw[left_here l hb] at h ⊢
   rw[if_neg (by decide),if_pos (show b=35 from h.resolve_left (by simp))]
theorem word_fst:∀ (l:List UInt8),tLeft l≠[]→(tLeft l).headD 0≠35→tWord l=tFst l:=by
 intro l
 induction l with
 | nil=>intro h;exact absurd rfl h
 | cons b l ih=>
  intro h h2
  rw[tWord_cons]
  cases hb:wh b with
  | true=>
   rw[left_white l hb] at h h2
   rw[if_pos rfl,ih h h2]
   unfold tFst
   rw[left_white l hb]
  | false=>
   rw[left_here l hb] at h2
   rw[if_neg (by decide),if_neg (show ¬ b=35 from h2),fst_some (left_here l hb) hb]
theorem words_left:∀ l:List UInt8,tWords l=tWords (tLeft l):=by
 intro l
 induction l with
 | nil=>rfl
 | cons b l ih=>
  cases hb:wh b with
  | true=>
   rw[left_white l hb,←ih]
   show wordsC [] (b :: l)=_
   rw[wordsC_cons,if_pos hb,if_pos rfl]
   rfl
  | false=>rw[left_here l hb]
theorem words_fst (l:List UInt8):tWords l=if (tFst l).1=[] then [] else (tFst l).1 :: tWords (tFst l).2:=by
 rw[words_left]
 rcases left_head l with h|⟨b,r,h,hb⟩
 ·rw[fst_none h,if_pos rfl,h]
  rfl
 ·rw[fst_some h hb,if_neg (by simp),h]
  show wordsC [] (b :: r)=_
  rw[wordsC_cons,if_neg (by rw[hb];decide)]
  conv=>lhs;rw[(List.takeWhile_append_dropWhile (p:=nw) (l:=r)).symm]
  rw[wordsC_run _ _ (run_take r),wordsC_end (by simp) (edge_drop r)]
  rfl
theorem words_get (l:List UInt8):(tWords l).getD 0 []=(tFst l).1∧(tWords l).getD 1 []=(tFst (tFst l).2).1∧(0<(tWords l).length↔(tFst l).1≠[])∧(1<(tWords l).length↔(tFst (tFst l).2).1≠[]):=by
 rw[words_fst l]
 by_cases h:(tFst l).1=[]
 ·have h2:(tFst l).2=[]:=by
   rcases left_head l with g|⟨b,r,g,hb⟩
   ·rw[fst_none g]
   ·rw[fst_some g hb] at h
    exact absurd h (by simp)
  rw[if_pos h,h,h2]
  refine ⟨rfl,rfl,by simp,?_⟩
  rw[fst_none (show tLeft []=[] from rfl)]
  simp
 ·rw[if_neg h,words_fst (tFst l).2]
  by_cases h2:(tFst (tFst l).2).1=[]
  ·rw[if_pos h2,h2]
   refine ⟨rfl,rfl,?_,by simp⟩
   simp[h]
  ·rw[if_neg h2]
   refine ⟨rfl,rfl,?_,?_⟩
   ·simp[h]
   ·simp[h2]
end Go.Proofs.YthcmkpiajkbpnaaGreatDoor.U
namespace Go.Proofs.YthcmkpiajkbpnaaGreatDoor
open Go.RowKit
structure ClassF (K:FuncId) (p:Int→Bool):Prop where
 enter:∀ args w,(callFunc K args).run Tryz.prog w=.ok (.enter K args) w
 says:∀ (c:Int) (w:World),Calls Tryz.prog K #[.int .u8 c] w fun e w'=>e=.returned (.bool (p c))∧w=w'
theorem ClassF.is {K:FuncId} {p:Int→Bool} (h:ClassF K p) (q:Bool) (c:Int) (w:World) (hq:p c=q):Calls Tryz.prog K #[.int .u8 c] w fun e w'=>e=.returned (.bool q)∧w=w':=by
 subst hq;exact h.says c w
end Go.Proofs.YthcmkpiajkbpnaaGreatDoor
namespace Go.Proofs.YthcmkpiajkbpnaaGreatDoor
open Go.RowKit
theorem drop_byt (s:ByteArray) (pos:Nat) (h:pos<s.size):s.data.toList.drop pos=s.data.toList[pos]'(by rw[←Lib.size_eq];exact h) :: s.data.toList.drop (pos+1):=List.drop_eq_getElem_cons _
theorem byt_get (s:ByteArray) (pos:Nat) (h:pos<s.size):byt s pos=(s.data.toList[pos]'(by rw[←Lib.size_eq];exact h)).toNat:=by
 unfold byt
 simp[ByteArray.get!,getElem!_pos,h]
theorem decode_ascii (s:ByteArray) (pos:Nat) (_h:pos<s.size) (ha:byt s pos<128):(Utf8.decode s pos)=(byt s pos,1):=by
 have:=one_eq s pos
 rw[oneA _ _ _ _ _ ha] at this
 unfold one at this
 split at this
 ·rename_i hb
  exfalso
  have:=congrArg Prod.snd this
  simp at this
 ·rw[←Lib.decodeL_drop];exact this
theorem decode13 (s:ByteArray) (pos:Nat) (h:pos<s.size) (hb:U.bad (s.data.toList.drop pos)=false) (hc:(Utf8.decode s pos).1<128):byt s pos=(Utf8.decode s pos).1∧(Utf8.decode s pos).2=1:=by
 have hn:¬ ((Lib.decodeL (s.data.toList.drop pos)).1=65533∧(Lib.decodeL (s.data.toList.drop pos)).2=1):=by
  intro x
  rw[(U.bad_iff _).2 x] at hb;cases hb
 have he:=Lib.encode_decode _ (drop_ne h) hn
 rw[Lib.decodeL_drop] at he
 have hlen:=congrArg List.length he
 have hw:=dec_pos s pos
 have hle:=dec_le s pos h
 unfold Lib.encodeRune at he hlen
 rw[Lib.encodeRuneZ_one (by omega) (by omega)] at he hlen
 rw[List.length_take,List.length_drop,←Lib.size_eq] at hlen
 simp at hlen
 have h1:(Utf8.decode s pos).2=1:=by omega
 refine ⟨?_,h1⟩
 rw[h1,drop_byt s pos h] at he
 simp at he
 rw[byt_get s pos h,Array.getElem_toList,←he]
 simp
 omega
end Go.Proofs.YthcmkpiajkbpnaaGreatDoor
namespace Go.Proofs.YthcmkpiajkbpnaaGreatDoor
open Go.RowKit
set_option maxHeartbeats 800000 in
theorem handValue_is (v:Int) (c:Nat) (w:World) (hc:c≤1114111) (h:U.cHexV c=v) :
  Calls Tryz.prog 164 #[.int .i32 (c:Int)] w fun e w'=>e=.returned (.int .i64 v)∧w=w':=by
 have H:=Lib.hid h
 clear h
 unfold U.cHexV at H
 rcases (show c<48∨(48≤c∧c≤57)∨(57<c∧c<65)∨(65≤c∧c≤70)∨(70<c∧c<97)∨(97≤c∧c≤102)∨102<c from by omega) with g|⟨g,g2⟩|⟨g,g2⟩|⟨g,g2⟩|⟨g,g2⟩|⟨g,g2⟩|g
 all_goals
  go_enter Tryz.func164,Tryz.ntmps164
  go_wp2
  go_ret
  refine ⟨congrArg (fun z:Int=>Ending.returned (.int .i64 z)) (?_:_=v),rfl⟩
  have H2:=H.out
  repeat' split at H2
  all_goals omega
set_option maxHeartbeats 800000 in
theorem handSuffixed_any (c:Int) (w:World) :
  Calls Tryz.prog 129 #[.int .u8 c] w fun e w'=>e=.returned (.bool (U.sfx c))∧w=w':=by
 cases hu:U.uri c with
 | false=>
  have F:=Lib.hid (show U.sfx c=false by unfold U.sfx;rw[hu];rfl)
  have HU:=Lib.hid hu
  clear hu
  go_enter Tryz.func129,Tryz.ntmps129
  go_wp2_with fail
  refine (Uri_is false c _ HU.out).mono ?_
  rintro e w1 ⟨rfl,rfl⟩
  go_wp2
  go_ret
  exact ⟨by rw[F.out];rfl,rfl⟩
 | true=>
  by_cases h33:c=33
  ·subst h33
   have F:=Lib.hid (show U.sfx 33=false by decide)
   have HU:=Lib.hid hu
   clear hu
   go_enter Tryz.func129,Tryz.ntmps129
   go_wp2_with fail
   refine (Uri_is true 33 _ HU.out).mono ?_
   rintro e w1 ⟨rfl,rfl⟩
   go_wp2
   go_ret
   exact ⟨by rw[F.out];rfl,rfl⟩
  ·have h33b:(c != 33)=true:=by simp[h33]
   have F:=Lib.hid (show U.sfx c=!(U.flow c) by unfold U.sfx;rw[hu,decide_eq_false h33];rfl)
   have HU:=Lib.hid hu
   clear hu h33
   go_enter Tryz.func129,Tryz.ntmps129
   go_wp2_with fail
   refine (Uri_is true c _ HU.out).mono ?_
   rintro e w1 ⟨rfl,rfl⟩
   go_wp2_with fail
   refine (Flow_any c _).mono ?_
   rintro e w1 ⟨rfl,rfl⟩
   go_wp2
   go_ret
   exact ⟨by rw[F.out];rfl,rfl⟩
theorem classUri:ClassF 127 U.uri:=⟨Tryz.call127,Uri_any⟩
theorem classWord:ClassF 128 U.wordc:=⟨Tryz.call128,Word_any⟩
theorem classSuffixed:ClassF 129 U.sfx:=⟨Tryz.call129,handSuffixed_any⟩
theorem decode_rune (s:ByteArray) (k:Nat):(Utf8.decode s k).1≤1114111:=by
 have h:=U.decodeL_scalar (s.data.toList.drop k)
 rw[Lib.decodeL_drop] at h
 unfold U.scalar at h
 rw[decide_eq_true_eq] at h
 omega
theorem decode_low (s:ByteArray) (k:Nat) (h:k<s.size):(byt s k<128∧(Utf8.decode s k).1=byt s k∧(Utf8.decode s k).2=1)∨(128≤byt s k∧128≤(Utf8.decode s k).1):=by
 by_cases ha:byt s k<128
 ·have:=decode_ascii s k h ha
  exact .inl ⟨ha,by rw[this],by rw[this]⟩
 ·refine .inr ⟨by omega,?_⟩
  cases hb:U.bad (s.data.toList.drop k) with
  | true=>rw[bad_width s k h hb];omega
  | false=>
   by_cases h1:(Utf8.decode s k).1<128
   ·have:=(decode13 s k h hb h1).1
    omega
   ·omega
set_option maxRecDepth 100000 in
set_option maxHeartbeats 1600000 in
theorem handRun_is {K:FuncId} {p:Int→Bool} (hK:ClassF K p) (hp:∀ c:Int,p c=true→c<128) (n:Nat) (s:ByteArray) (w:World) (hs:s.size≤1099511627776) (h:U.tR p 0 s.data.toList=n) :
  Calls Tryz.prog 126 #[.string s,.func (.func K) #[] #[]] w fun e w'=>e=.returned (.int .i64 (n:Int))∧Below w.heap.size w w':=by
 have HQ:=Lib.hid h
 have hC:=hK.enter
 have hb0:∀ pos,Below w.heap.size w (w.iter s pos):=fun pos=>(Below.refl _ _).alloc (Nat.le_refl _) _
 clear h
 go_enter Tryz.func126,Tryz.ntmps126
 go_wp2
 go_loopw [5,6] (fun e a w'=>∃ k en aw:Nat,e=.int .i64 (en:Int)∧a=.int .i64 (aw:Int)∧w'=w.iter s k∧k≤s.size∧aw≤2∧en+U.pend aw=k∧Hid (en+U.tR p aw (s.data.toList.drop k)=n)) (fun _ _ w'=>s.size-w'.iterPos w.heap.size)
 case atStart=>exact ⟨0,0,0,rfl,rfl,rfl,Nat.zero_le _,by omega,rfl,by show _=_;rw[List.drop_zero,HQ.out,Nat.zero_add]⟩
 case round=>
  obtain ⟨k,en,aw,rfl,rfl,rfl,hk,haw,hen,H⟩:=hrel
  by_cases hk2:k<s.size
  ·have hnx:∀ ty,(Instr.next (.pointer (some ⟨w.heap.size,0,none⟩)) true ty).run Tryz.prog (w.iter s k)=_:=fun ty=>run_next_any w s k ty hk2
   have hwd:=dec_pos s k
   have hle:=dec_le s k hk2
   have hxm:=decode_rune s k
   obtain ⟨b,hd,hb⟩:=drop_byte s k hk2
   have H2:=H.out
   rw[hd] at H2
   have hlow:=decode_low s k hk2
   obtain ⟨x,hx⟩:∃ x:Nat,x=(Utf8.decode s k).1:=⟨_,rfl⟩
   obtain ⟨d,hdd⟩:∃ d:Nat,d=(Utf8.decode s k).2:=⟨_,rfl⟩
   rw[←hx,←hdd] at hlow
   rw[←hx,←hdd] at hnx
   rw[←hdd] at hwd hle
   rw[←hx] at hxm
   have HXM:=Lib.hid hxm
   clear hx hdd hd H HQ hxm
   rcases hlow with ⟨hl,rfl,rfl⟩|⟨hl,hx128⟩
   ·rw[←hb] at hl hnx
    obtain ⟨x,hx⟩:∃ x:Nat,x=b.toNat:=⟨_,rfl⟩
    rw[←hx] at hl hnx
    clear HXM
    rcases U.three_of aw haw with rfl|rfl|rfl
    ·rw[U.tR_zero,←hx] at H2
     rw[U.pend0,Nat.add_zero] at hen
     subst hen
     cases hpx:p (x:Int) with
     | false=>
      rw[if_neg (by simp[hpx])] at H2
      have F:=Lib.hid H2
      have HP:=Lib.hid hpx
      clear H2 hpx hb hx
      go_wp2_with fail
      refine (hK.is false _ _ HP.out).mono ?_
      rintro e w1 ⟨rfl,rfl⟩
      go_wp2
      go_ret
      exact ⟨by rw[←F.out];rfl,hb0 _⟩
     | true=>
      rw[if_pos hpx] at H2
      have HP:=Lib.hid hpx
      by_cases h37:x=37
      ·rw[if_pos h37] at H2
       have F:=Lib.hid H2
       subst h37
       clear H2 hpx hb hx
       go_wp2_with fail
       refine (hK.is true _ _ HP.out).mono ?_
       rintro e w1 ⟨rfl,rfl⟩
       go_wp2
       go_roundw
       case rel=>exact ⟨en+1,en,2,rfl,rfl,rfl,by omega,Nat.le_refl _,rfl,F.out⟩
       case measure=>simp;omega
      ·rw[if_neg h37] at H2
       have h37b:((x:Int)==37)=false:=by simp;omega
       have F:=Lib.hid H2
       clear H2 hpx hb hx
       go_wp2_with fail
       refine (hK.is true _ _ HP.out).mono ?_
       rintro e w1 ⟨rfl,rfl⟩
       go_wp2
       go_roundw
       case rel=>exact ⟨en+1,en+1,0,by go_num,rfl,rfl,by omega,Nat.zero_le _,rfl,by show _=_;have:=F.out;omega⟩
       case measure=>simp;omega
    ·rw[U.pend1] at hen
     rw[U.tR_one] at H2
     obtain ⟨v,hv⟩:∃ v:Int,U.cHexV x=v:=⟨_,rfl⟩
     have hvr:=U.hexV_le x
     have hxi:=U.hx_iff b
     rw[←hx,hv] at hxi
     rw[hv] at hvr
     have HV:=Lib.hid hv
     by_cases hv0:0≤v
     ·rw[if_pos (hxi.2 hv0)] at H2
      have F:=Lib.hid H2
      clear H2 hxi hv hb hx
      go_wp2_with fail
      refine (handValue_is v x _ (by omega) HV.out).mono ?_
      rintro e w1 ⟨rfl,rfl⟩
      go_wp2
      go_roundw
      case rel=>exact ⟨k+1,k+1,0,by go_num,rfl,rfl,by omega,Nat.zero_le _,rfl,by show _=_;have:=F.out;omega⟩
      case measure=>simp;omega
     ·rw[if_neg (fun h=>hv0 (hxi.1 h))] at H2
      have F:=Lib.hid H2
      clear H2 hxi hv hb hx
      go_wp2_with fail
      refine (handValue_is v x _ (by omega) HV.out).mono ?_
      rintro e w1 ⟨rfl,rfl⟩
      go_wp2
      go_ret
      exact ⟨by rw[←F.out];rfl,hb0 _⟩
    ·rw[U.pend2] at hen
     rw[U.tR_two] at H2
     obtain ⟨v,hv⟩:∃ v:Int,U.cHexV x=v:=⟨_,rfl⟩
     have hvr:=U.hexV_le x
     have hxi:=U.hx_iff b
     rw[←hx,hv] at hxi
     rw[hv] at hvr
     have HV:=Lib.hid hv
     by_cases hv0:0≤v
     ·rw[if_pos (hxi.2 hv0)] at H2
      have F:=Lib.hid H2
      clear H2 hxi hv hb hx
      go_wp2_with fail
      refine (handValue_is v x _ (by omega) HV.out).mono ?_
      rintro e w1 ⟨rfl,rfl⟩
      go_wp2
      go_roundw
      case rel=>exact ⟨k+1,en,1,rfl,rfl,rfl,by omega,by omega,by rw[U.pend1];omega,F.out⟩
      case measure=>simp;omega
     ·rw[if_neg (fun h=>hv0 (hxi.1 h))] at H2
      have F:=Lib.hid H2
      clear H2 hxi hv hb hx
      go_wp2_with fail
      refine (handValue_is v x _ (by omega) HV.out).mono ?_
      rintro e w1 ⟨rfl,rfl⟩
      go_wp2
      go_ret
      exact ⟨by rw[←F.out];rfl,hb0 _⟩
   ·rw[←hb] at hl
    have hv:=U.hexV_great x hx128
    rcases U.three_of aw haw with rfl|rfl|rfl
    ·have hpb:¬ (p (b.toNat:Int)=true):=fun h=>by have:=hp _ h;omega
     rw[U.tR_zero,if_neg hpb] at H2
     have F:=Lib.hid H2
     clear H2 hpb hb hv
     go_wp2
     go_ret
     exact ⟨by rw[←F.out];rfl,hb0 _⟩
    ·have hxb:¬ (U.hx b=true):=fun h=>by have:=U.hx_range h;omega
     rw[U.tR_one,if_neg hxb] at H2
     have F:=Lib.hid H2
     have HV:=Lib.hid hv
     clear H2 hxb hb hv
     go_wp2_with fail
     refine (handValue_is (-1) x _ HXM.out HV.out).mono ?_
     rintro e w1 ⟨rfl,rfl⟩
     go_wp2
     go_ret
     exact ⟨by rw[←F.out];rfl,hb0 _⟩
    ·have hxb:¬ (U.hx b=true):=fun h=>by have:=U.hx_range h;omega
     rw[U.tR_two,if_neg hxb] at H2
     have F:=Lib.hid H2
     have HV:=Lib.hid hv
     clear H2 hxb hb hv
     go_wp2_with fail
     refine (handValue_is (-1) x _ HXM.out HV.out).mono ?_
     rintro e w1 ⟨rfl,rfl⟩
     go_wp2
     go_ret
     exact ⟨by rw[←F.out];rfl,hb0 _⟩
  ·have hnx:∀ ty,(Instr.next (.pointer (some ⟨w.heap.size,0,none⟩)) true ty).run Tryz.prog (w.iter s k)=_:=fun ty=>run_next_end w s k ty hk2
   have H2:=H.out
   rw[List.drop_eq_nil_of_le (by rw[←Lib.size_eq];omega),U.tR_nil] at H2
   have F:=Lib.hid (show en=n by omega)
   clear H2
   go_wp2
   go_ret
   exact ⟨by rw[←F.out];rfl,hb0 k⟩
end Go.Proofs.YthcmkpiajkbpnaaGreatDoor
namespace Go.Proofs.YthcmkpiajkbpnaaGreatDoor
open Go.RowKit
theorem handDrop (s:ByteArray) (k:Nat):(s.extract k s.size).data.toList=s.data.toList.drop k:=by
 rw[Lib.extract_data,List.take_of_length_le]
 rw[List.length_drop,Lib.size_eq];exact Nat.le_refl _
theorem handDrop_size (s:ByteArray) (k:Nat):(s.extract k s.size).size=s.size-k:=by
 rw[ByteArray.size_extract];omega
theorem uri_low:∀ c:Int,U.uri c=true→c<128:=fun _ h=>(U.uri_ascii h).2
theorem wordc_low:∀ c:Int,U.wordc c=true→c<128:=fun _ h=>(U.wordc_ascii h).2.1
theorem sfx_low:∀ c:Int,U.sfx c=true→c<128:=fun _ h=>(U.sfx_ascii h).2
theorem runUri_is (m k:Nat) (s:ByteArray) (w:World) (hs:s.size≤1099511627776) (h:U.tR U.uri 0 (s.data.toList.drop k)=m) :
  Calls Tryz.prog 126 #[.string (s.extract k s.size),.func (.func 127) #[] #[]] w fun e w'=>e=.returned (.int .i64 (m:Int))∧Below w.heap.size w w':=
 handRun_is classUri uri_low m _ w (by rw[handDrop_size];omega) (by rw[handDrop];exact h)
theorem runWord_is (m k:Nat) (s:ByteArray) (w:World) (hs:s.size≤1099511627776) (h:U.tR U.wordc 0 (s.data.toList.drop k)=m) :
  Calls Tryz.prog 126 #[.string (s.extract k s.size),.func (.func 128) #[] #[]] w fun e w'=>e=.returned (.int .i64 (m:Int))∧Below w.heap.size w w':=
 handRun_is classWord wordc_low m _ w (by rw[handDrop_size];omega) (by rw[handDrop];exact h)
theorem runSfx_is (m k:Nat) (s:ByteArray) (w:World) (hs:s.size≤1099511627776) (h:U.tR U.sfx 0 (s.data.toList.drop k)=m) :
  Calls Tryz.prog 126 #[.string (s.extract k s.size),.func (.func 129) #[] #[]] w fun e w'=>e=.returned (.int .i64 (m:Int))∧Below w.heap.size w w':=
 handRun_is classSuffixed sfx_low m _ w (by rw[handDrop_size];omega) (by rw[handDrop];exact h)
theorem run_le (p:Int→Bool) (s:ByteArray) (k:Nat):U.tR p 0 (s.data.toList.drop k)≤s.size-k:=by
 have:=U.tR_le0 p (s.data.toList.drop k)
 rwa [List.length_drop,←Lib.size_eq] at this
theorem headD_byte {s:ByteArray} {k:Nat} (h:k<s.size) (c:UInt8):(s.data.toList.drop k).headD 0=c↔byt s k=c.toNat:=by
 obtain ⟨b,hd,hb⟩:=drop_byte s k h
 rw[hd,←hb]
 exact ⟨fun e=>by rw[show b=c from e],fun e=>UInt8.toNat_inj.1 e⟩
theorem headD_over {s:ByteArray} {k:Nat} (h:s.size≤k):(s.data.toList.drop k).headD 0=0:=by
 rw[List.drop_eq_nil_of_le (by rw[←Lib.size_eq];exact h)];rfl
set_option maxHeartbeats 800000 in
theorem handBracketed_is (n:Nat) (s:ByteArray) (w:World) (hs:s.size≤1099511627776) (h:U.tBrac (s.data.toList.drop 1)=n) :
  Calls Tryz.prog 87 #[.string s] w fun e w'=>e=.returned (.int .i64 (n:Int))∧Below w.heap.size w w':=by
 by_cases h2:s.size<2
 ·have hz:n=0:=by
   rw[←h]
   cases hl:s.data.toList.drop 1 with
   | nil=>rfl
   | cons b m=>
    have:=congrArg List.length hl
    rw[List.length_drop,←Lib.size_eq,List.length_cons] at this
    omega
  subst hz
  clear h
  go_enter Tryz.func87,Tryz.ntmps87
  go_wp2
  go_ret
  exact ⟨rfl,Below.refl _ _⟩
 ·obtain ⟨b,hd,hb⟩:=drop_byte s 1 (by omega)
  have hi:=run_byt s 1 (by omega) 1 rfl
  rw[hd,U.tBrac_cons,show 1+1=2 from rfl] at h
  have hml:=run_le U.uri s 2
  obtain ⟨m,hm⟩:∃ m,U.tR U.uri 0 (s.data.toList.drop 2)=m:=⟨_,rfl⟩
  have HM:=Lib.hid hm
  rw[hm,hb,List.drop_drop] at h
  rw[hm] at hml
  obtain ⟨x,hx⟩:∃ x:Nat,x=byt s 1:=⟨_,rfl⟩
  rw[←hx] at hi h
  clear hd hb hx hm
  by_cases h60:x=60
  ·subst h60
   by_cases hm0:m=0
   ·rw[if_neg (by omega)] at h
    subst h
    subst hm0
    go_enter Tryz.func87,Tryz.ntmps87
    go_wp2_with fail
    refine (runUri_is 0 2 s _ hs HM.out).mono ?_
    rintro e w1 ⟨rfl,b1⟩
    go_wp2
    go_ret
    exact ⟨rfl,b1⟩
   ·by_cases he:2+m=s.size
    ·rw[if_neg (by intro hh;rw[headD_over (by omega)] at hh;exact absurd hh.2.2 (by decide))] at h
     subst h
     have he2:((2:Int)+(m:Int)==(s.size:Int))=true:=by simp;omega
     go_enter Tryz.func87,Tryz.ntmps87
     go_wp2_with fail
     refine (runUri_is m 2 s _ hs HM.out).mono ?_
     rintro e w1 ⟨rfl,b1⟩
     go_wp2
     go_ret
     exact ⟨rfl,b1⟩
    ·have hi2:=run_byt s (2+m) (by omega) (2+(m:Int)) (by omega)
     have hI:(s.data.toList.drop (2+m)).headD 0=62↔byt s (2+m)=62:=headD_byte (by omega) 62
     obtain ⟨y,hy⟩:∃ y:Nat,y=byt s (2+m):=⟨_,rfl⟩
     rw[←hy] at hi2 hI
     clear hy
     have hb2:((2:Int)+(m:Int)==2)=false:=by simp;omega
     have hb3:((2:Int)+(m:Int)==(s.size:Int))=false:=by simp;omega
     by_cases h62:y=62
     ·rw[if_pos ⟨rfl,by omega,hI.2 h62⟩] at h
      subst h
      subst h62
      clear hI
      go_enter Tryz.func87,Tryz.ntmps87
      go_wp2_with fail
      refine (runUri_is m 2 s _ hs HM.out).mono ?_
      rintro e w1 ⟨rfl,b1⟩
      go_wp2
      go_ret
      exact ⟨congrArg (fun z:Int=>Ending.returned (.int .i64 z)) (by omega),b1⟩
     ·rw[if_neg (fun hh=>h62 (hI.1 hh.2.2))] at h
      subst h
      have hyb:((y:Int) != 62)=true:=by simp;omega
      clear hI
      go_enter Tryz.func87,Tryz.ntmps87
      go_wp2_with fail
      refine (runUri_is m 2 s _ hs HM.out).mono ?_
      rintro e w1 ⟨rfl,b1⟩
      go_wp2
      go_ret
      exact ⟨rfl,b1⟩
  ·rw[if_neg (fun hh=>h60 hh.1)] at h
   subst h
   have hxb:((x:Int) != 60)=true:=by simp;omega
   clear HM
   go_enter Tryz.func87,Tryz.ntmps87
   go_wp2
   go_ret
   exact ⟨rfl,Below.refl _ _⟩
set_option maxHeartbeats 800000 in
theorem handParts_is (a b:Nat) (s:ByteArray) (w:World) (hs:s.size≤1099511627776) (h1:1≤s.size) (h:U.tHand (s.data.toList.drop 1)=(a,b)) :
  Calls Tryz.prog 88 #[.string s] w fun e w'=>e=.returned (.tuple #[.int .i64 (a:Int),.int .i64 (b:Int)])∧Below w.heap.size w w':=by
 have hnl:=run_le U.wordc s 1
 obtain ⟨n,hn⟩:∃ n,U.tR U.wordc 0 (s.data.toList.drop 1)=n:=⟨_,rfl⟩
 obtain ⟨q,hq⟩:∃ q,U.tR U.sfx 0 (s.data.toList.drop 1)=q:=⟨_,rfl⟩
 obtain ⟨m,hm⟩:∃ m,U.tR U.sfx 0 (s.data.toList.drop (1+(n+1)))=m:=⟨_,rfl⟩
 unfold U.tHand at h
 rw[hn,List.drop_drop,List.drop_drop,hm,hq] at h
 rw[hn] at hnl
 have hml:=run_le U.sfx s (1+(n+1))
 rw[hm] at hml
 have HN:=Lib.hid hn
 have HQ:=Lib.hid hq
 have HM:=Lib.hid hm
 clear hn hq hm
 by_cases he:1+n<s.size
 ·have hi:=run_byt s (1+n) he (1+(n:Int)) (by omega)
  have hI:(s.data.toList.drop (1+n)).headD 0=33↔byt s (1+n)=33:=headD_byte he 33
  obtain ⟨y,hy⟩:∃ y:Nat,y=byt s (1+n):=⟨_,rfl⟩
  rw[←hy] at hi hI
  clear hy
  by_cases h33:y=33
  ·by_cases hm0:0<m
   ·rw[if_pos ⟨hI.2 h33,hm0⟩] at h
    obtain ⟨rfl,rfl⟩:=Prod.mk.inj h
    subst h33
    clear h hI
    have HM2:Hid (U.tR U.sfx 0 (s.data.toList.drop (n+2))=m):=by
     have:=HM.out
     rw[show 1+(n+1)=n+2 by omega] at this
     exact this
    go_enter Tryz.func88,Tryz.ntmps88
    go_wp2_with fail
    refine (runWord_is n 1 s _ hs HN.out).mono ?_
    rintro e w1 ⟨rfl,b1⟩
    go_wp2_with fail
    refine (runSfx_is m _ s _ hs HM.out).mono ?_
    rintro e w2 ⟨rfl,b2⟩
    go_wp2
    go_ret2
    exact ⟨congrArg (fun z:Int=>Ending.returned (.tuple #[.int .i64 z,.int .i64 (m:Int)])) (by omega),tb2 b1 b2⟩
   ·rw[if_neg (fun hh=>hm0 hh.2)] at h
    obtain ⟨rfl,rfl⟩:=Prod.mk.inj h
    obtain rfl:m=0:=by omega
    subst h33
    clear h hI
    go_enter Tryz.func88,Tryz.ntmps88
    go_wp2_with fail
    refine (runWord_is n 1 s _ hs HN.out).mono ?_
    rintro e w1 ⟨rfl,b1⟩
    go_wp2_with fail
    refine (runSfx_is 0 _ s _ hs HM.out).mono ?_
    rintro e w2 ⟨rfl,b2⟩
    go_wp2_with fail
    refine (runSfx_is q 1 s _ hs HQ.out).mono ?_
    rintro e w3 ⟨rfl,b3⟩
    go_wp2
    go_ret2
    exact ⟨rfl,tb2 (tb2 b1 b2) b3⟩
  ·rw[if_neg (fun hh=>h33 (hI.1 hh.1))] at h
   obtain ⟨rfl,rfl⟩:=Prod.mk.inj h
   have hyb:((y:Int)==33)=false:=by simp;omega
   clear h HM hI
   go_enter Tryz.func88,Tryz.ntmps88
   go_wp2_with fail
   refine (runWord_is n 1 s _ hs HN.out).mono ?_
   rintro e w1 ⟨rfl,b1⟩
   go_wp2_with fail
   refine (runSfx_is q 1 s _ hs HQ.out).mono ?_
   rintro e w3 ⟨rfl,b3⟩
   go_wp2
   go_ret2
   exact ⟨rfl,tb2 b1 b3⟩
 ·rw[headD_over (by omega),if_neg (fun hh=>absurd hh.1 (by decide))] at h
  obtain ⟨rfl,rfl⟩:=Prod.mk.inj h
  clear h HM
  go_enter Tryz.func88,Tryz.ntmps88
  go_wp2_with fail
  refine (runWord_is n 1 s _ hs HN.out).mono ?_
  rintro e w1 ⟨rfl,b1⟩
  go_wp2_with fail
  refine (runSfx_is q 1 s _ hs HQ.out).mono ?_
  rintro e w3 ⟨rfl,b3⟩
  go_wp2
  go_ret2
  exact ⟨rfl,tb2 b1 b3⟩
end Go.Proofs.YthcmkpiajkbpnaaGreatDoor
