/- Parts of the proof, put together from smaller texts (blanks that Lean does not want are struck). Conditions: those that each theorem writes out. -/
import Derived.Test.YtncngeamdechmaaGreatDoorZ03
namespace Go.Proofs.YtncngeamdechmaaGreatDoor
open Go.RowKit
theorem noLF_cons {b:UInt8} {l:List UInt8} {k:Nat} (hb:b≠10) (h:∀ x∈l.take k,x≠10):∀ x∈(b :: l).take (k+1),x≠10:=by
 intro x hx
 rw[List.take_succ_cons,List.mem_cons] at hx
 rcases hx with rfl|hx
 ·exact hb
 ·exact h x hx
theorem noLF_hx {b:UInt8} (h:U.hx b=true):b≠10:=by
 have:=U.hx_range h
 intro e;subst e;revert this;decide
theorem noLF_run (p:Int→Bool) (hp:p 10=false):∀ (l:List UInt8) (a:Nat),a≤2→∀ x∈l.take (U.tR p a l-U.pend a),x≠10:=by
 intro l
 induction l with
 | nil=>intro a _ x hx;simp at hx
 | cons b l ih=>
  intro a ha
  have h0:=ih 0 (by omega)
  rw[U.pend0,Nat.sub_zero] at h0
  have h1:=ih 1 (by omega)
  rw[U.pend1] at h1
  have h2:=ih 2 (by omega)
  rw[U.pend2] at h2
  match a,ha with
  | 0,_=>
   rw[U.tR_zero,U.pend0,Nat.sub_zero]
   split
   ·rename_i hpb
    have hb:b≠10:=fun e=>by subst e;rw[show ((10:UInt8).toNat:Int)=10 from rfl,hp] at hpb;cases hpb
    split
    ·intro x hx
     by_cases hz:U.tR p 2 l=0
     ·rw[hz] at hx;simp at hx
     ·rw[show U.tR p 2 l=U.tR p 2 l-1+1 by omega] at hx
      exact noLF_cons hb h2 x hx
    ·exact noLF_cons hb h0
   ·intro x hx;simp at hx
  | 1,_=>
   rw[U.tR_one,U.pend1]
   split
   ·rename_i hb
    rw[show U.tR p 0 l+3-2=U.tR p 0 l+1 by omega]
    exact noLF_cons (noLF_hx hb) h0
   ·intro x hx;simp at hx
  | 2,_=>
   rw[U.tR_two,U.pend2]
   split
   ·rename_i hb
    intro x hx
    by_cases hz:U.tR p 1 l≤1
    ·rw[show U.tR p 1 l-1=0 by omega] at hx;simp at hx
    ·rw[show U.tR p 1 l-1=U.tR p 1 l-2+1 by omega] at hx
     exact noLF_cons (noLF_hx hb) h1 x hx
   ·intro x hx;simp at hx
theorem noLF_run0 (p:Int→Bool) (hp:p 10=false) (l:List UInt8):∀ x∈l.take (U.tR p 0 l),x≠10:=by
 have:=noLF_run p hp l 0 (by omega)
 rwa [U.pend0,Nat.sub_zero] at this
theorem noLF_app {l:List UInt8} {a b:Nat} (h1:∀ x∈l.take a,x≠10) (h2:∀ x∈(l.drop a).take b,x≠10):∀ x∈l.take (a+b),x≠10:=by
 intro x hx
 rw[List.take_add,List.mem_append] at hx
 rcases hx with hx|hx
 ·exact h1 x hx
 ·exact h2 x hx
theorem noLF_head {l:List UInt8} {c:UInt8} (h:l.headD 0=c) (hc:c≠10):∀ x∈l.take 1,x≠10:=by
 cases l with
 | nil=>intro x hx;simp at hx
 | cons b l=>
  intro x hx
  rw[List.take_succ_cons,List.take_zero,List.mem_singleton] at hx
  subst hx
  exact fun e=>hc (by rw[←h];exact e)
theorem noLF_tag (l:List UInt8):∀ x∈l.take (U.tSize l),x≠10:=by
 cases l with
 | nil=>intro x hx;simp at hx
 | cons b l=>
  rw[U.tSize_cons]
  split
  ·rename_i hb
   have hb10:b≠10:=fun e=>by subst e;revert hb;decide
   split
   ·cases l with
    | nil=>rename_i h;exact absurd h (by decide)
    | cons c m=>
     rename_i h
     rw[U.tBrac_cons] at h ⊢
     split
     ·rename_i h2
      have hc:c≠10:=fun e=>by subst e;revert h2;intro h2;exact absurd h2.1 (by decide)
      refine noLF_cons hb10 (k:=U.tR U.uri 0 m+2) (noLF_cons hc (k:=U.tR U.uri 0 m+1) (noLF_app (noLF_run0 U.uri (by decide) m) (noLF_head h2.2.2 (by decide))))
     ·rename_i h2;rw[if_neg h2] at h;exact absurd h (by decide)
   ·rw[show (U.tHand l).1+(U.tHand l).2=((U.tHand l).1-1+(U.tHand l).2)+1 by have:=U.tHand_le l;omega]
    refine noLF_cons hb10 ?_
    unfold U.tHand
    split
    ·rename_i h
     rw[show U.tR U.wordc 0 l+2-1+U.tR U.sfx 0 (l.drop (U.tR U.wordc 0 l+1))=(U.tR U.wordc 0 l+1)+U.tR U.sfx 0 (l.drop (U.tR U.wordc 0 l+1)) by omega]
     exact noLF_app (noLF_app (noLF_run0 U.wordc (by decide) l) (noLF_head h.1 (by decide))) (noLF_run0 U.sfx (by decide) _)
    ·rw[show 1-1+U.tR U.sfx 0 l=U.tR U.sfx 0 l by omega]
     exact noLF_run0 U.sfx (by decide) l
  ·intro x hx;simp at hx
theorem noLF_name (l:List UInt8):∀ x∈l.take (U.nameL l),x≠10:=by
 induction l with
 | nil=>intro x hx;simp at hx
 | cons b l ih=>
  rw[U.nameL_cons]
  split
  ·rename_i hb
   exact noLF_cons (fun e=>by subst e;revert hb;decide) ih
  ·intro x hx;simp at hx
theorem noLF_white (l:List UInt8):∀ x∈l.take ((l.takeWhile fun b=>U.white (b.toNat:Int)).length),x≠10:=by
 induction l with
 | nil=>intro x hx;simp at hx
 | cons b l ih=>
  rw[List.takeWhile_cons]
  split
  ·rename_i hb
   rw[List.length_cons]
   exact noLF_cons (fun e=>by subst e;revert hb;decide) ih
  ·intro x hx;simp at hx
theorem noLF_hexs:∀ (l:List UInt8) (acc v:Nat),U.hexs acc l=some v→∀ x∈l,x≠10:=by
 intro l
 induction l with
 | nil=>intro acc v _ x hx;cases hx
 | cons c r ih=>
  intro acc v h x hx
  cases hc:U.hexv c.toNat with
  | none=>rw[U.hexs_none r acc hc] at h;cases h
  | some d=>
   rw[U.hexs_some r acc hc] at h
   rcases List.mem_cons.1 hx with rfl|hx
   ·intro e;subst e;rw[show U.hexv (UInt8.toNat 10)=none from rfl] at hc;cases hc
   ·exact ih _ _ h x hx
theorem noLF_esc {l:List UInt8} {v k:Nat} (h:U.esc l=some (v,k)):∀ x∈l.take k,x≠10:=by
 cases l with
 | nil=>cases h
 | cons c l=>
  rw[U.esc_cons] at h
  split at h
  ·rename_i hc
   have hc10:c≠10:=fun e=>by subst e;revert hc;decide
   cases l with
   | nil=>exact absurd h (by simp[U.fol])
   | cons b m=>
    rw[U.fol_cons] at h
    by_cases hd:U.digs b.toNat=0
    ·rw[if_pos hd] at h
     cases hn:U.nm b.toNat with
     | none=>rw[hn] at h;cases h
     | some u=>
      rw[hn] at h
      simp at h
      obtain ⟨_,rfl⟩:=h
      have hb10:b≠10:=fun e=>by subst e;rw[show U.nm (UInt8.toNat 10)=none from rfl] at hn;cases hn
      exact noLF_cons hc10 (k:=1) (noLF_cons hb10 (k:=0) (fun x hx=>by simp at hx))
    ·rw[if_neg hd] at h
     cases hn:U.num (U.digs b.toNat) m with
     | none=>rw[hn] at h;cases h
     | some u=>
      rw[hn] at h
      simp at h
      obtain ⟨_,rfl⟩:=h
      have hb10:b≠10:=fun e=>by subst e;exact hd (by decide)
      refine noLF_cons hc10 (noLF_cons hb10 ?_)
      unfold U.num at hn
      split at hn
      ·split at hn
       ·cases hn
       ·rename_i hx;exact noLF_hexs _ _ _ hx
      ·cases hn
  ·cases h
theorem sameRow_iff {s:ByteArray} {p q:Nat}:sameRow s p q=true↔∀ j,j<q→p≤j→byt s j≠10:=by unfold sameRow;rw[decide_eq_true_eq]
theorem row_self (s:ByteArray) (p:Nat):sameRow s p p=true:=sameRow_iff.2 fun j h1 h2=>by omega
theorem row_join {s:ByteArray} {a b c:Nat} (h1:a≤b) (h2:b≤c):sameRow s a c=(sameRow s a b&&sameRow s b c):=by
 rw[Bool.eq_iff_iff,Bool.and_eq_true,sameRow_iff,sameRow_iff,sameRow_iff]
 constructor
 ·intro h;exact ⟨fun j j1 j2=>h j (by omega) j2,fun j j1 j2=>h j j1 (by omega)⟩
 ·rintro ⟨g1,g2⟩ j j1 j2
  by_cases hj:j<b
  ·exact g1 j hj j2
  ·exact g2 j j1 (by omega)
theorem row_lf {s:ByteArray} {a j c:Nat} (h1:a≤j) (h2:j<c) (h:byt s j=10):sameRow s a c=false:=by
 cases hh:sameRow s a c with
 | false=>rfl
 | true=>exact absurd h (sameRow_iff.1 hh j h2 h1)
theorem row_step {s:ByteArray} {a c:Nat} (h2:a+1≤c) (h:byt s a≠10):sameRow s a c=sameRow s (a+1) c:=by
 have h1:sameRow s a (a+1)=true:=sameRow_iff.2 fun j j1 j2=>by
  have e:j=a:=by omega
  rw[e];exact h
 rw[row_join (Nat.le_succ a) h2,h1,Bool.true_and]
theorem row_list {s:ByteArray} {a k:Nat} (hk:k≤(s.data.toList.drop a).length) (h:∀ x∈(s.data.toList.drop a).take k,x≠10):sameRow s a (a+k)=true:=by
 rw[sameRow_iff]
 intro j j1 j2 hb
 rw[List.length_drop,←Lib.size_eq] at hk
 have hj:j<s.size:=by omega
 have hm:s.data.toList[j]'(by rw[←Lib.size_eq];exact hj)∈(s.data.toList.drop a).take k:=by
  rw[List.mem_iff_getElem]
  refine ⟨j-a,by rw[List.length_take,List.length_drop,←Lib.size_eq];omega,?_⟩
  rw[List.getElem_take,List.getElem_drop]
  congr 1
  omega
 refine h _ hm ?_
 have:byt s j=(s.data.toList[j]'(by rw[←Lib.size_eq];exact hj)).toNat:=by unfold byt;simp[ByteArray.get!,getElem!_pos,hj]
 rw[this] at hb
 exact UInt8.toNat_inj.1 hb
theorem row_name {s:ByteArray} {k:Nat}:sameRow s k (k+nmN s k)=true:=row_list (U.nameL_le _) (noLF_name _)
theorem row_tag {s:ByteArray} {k:Nat}:sameRow s k (k+tgN s k)=true:=row_list (U.tSize_le _) (noLF_tag _)
theorem row_wh {s:ByteArray} {k:Nat}:sameRow s k (k+whN s k)=true:=row_list (List.takeWhile_sublist _).length_le (noLF_white _)
theorem AliZ.row {s:ByteArray} {A:List UInt8} {E C:Int} {p:Nat} (h:AliZ s (p:Int) A E C) (hC:C=0):sameRow s p E.toNat=true:=by
 rcases h with ⟨h0,_,hE,_⟩|⟨_,_,_,h0⟩
 ·unfold aliB at h0
  rw[decide_eq_true_eq,Int.toNat_natCast] at h0
  rw[Int.toNat_natCast] at hE
  rw[show E.toNat=p+1+nmN s (p+1) by omega,row_step (by omega) (by rw[h0.2.2.1];decide)]
  exact row_name
 ·rw[hC] at h0;cases h0
theorem PZ.row {s:ByteArray} {fl:Bool} {A T:List UInt8} {E:Nat} {C:Int} {p e:Nat} {a t:List UInt8} (h:PZ s fl A T E C p e a t):C=0→∀ p0,p0≤e→e≤p→p≤s.size→sameRow s p0 e=true→sameRow s e p=true→sameRow s p0 E=true:=by
 induction h with
 | none h1 h2 h3 h4 h5=>intro _ p0 _ _ _ hr _;rw[h4];exact hr
 | anchor0 h1 h2 h3 h4 h5 h6 h7=>intro hC;rw[h7] at hC;cases hC
 | tag0 h1 h2 h3 h4 h5 h6 h7=>intro hC;rw[h7] at hC;cases hC
 | anchorX h1 h2 h3 h4 h5 h6 h7 h8 h9 h10=>intro hC;rw[h10] at hC;cases hC
 | tagX h1 h2 h3 h4 h5 h6 h7 h8 h9=>intro hC;rw[h9] at hC;cases hC
 | @anchorL p e a t q h1 h2 h3 h4 h5 h6 h7 h8 h9 h10 h11=>
  intro _ p0 g1 g2 _ hr1 hr2
  rw[h10,row_join g1 (by omega),row_join g2 (by omega:p≤q),hr1,hr2,row_step (by omega) (by rw[h2];decide),h5,row_name]
  rfl
 | @tagL p e a t q h1 h2 h3 h4 h5 h6 h7 h8 h9 h10=>
  intro _ p0 g1 g2 _ hr1 hr2
  rw[h9,row_join g1 (by omega),row_join g2 (by omega:p≤q),hr1,hr2,h4,row_tag]
  rfl
 | @anchor p e a t q h1 h2 h3 h4 h5 h6 h7 h8 ih=>
  intro hC p0 g1 g2 g3 hr1 hr2
  have:=nm_le (s:=s) (k:=p+1) (by omega)
  have:=wh_le (s:=s) (k:=q) (by omega)
  refine ih hC p0 (by omega) (by omega) (by omega) ?_ row_wh
  rw[row_join g1 (by omega:e≤q),row_join g2 (by omega:p≤q),hr1,hr2,row_step (by omega) (by rw[h2];decide),h5,row_name]
  rfl
 | @tag p e a t q h1 h2 h3 h4 h5 h6 h7 ih=>
  intro hC p0 g1 g2 g3 hr1 hr2
  have:=tg_le (s:=s) (k:=p) (by omega)
  have:=wh_le (s:=s) (k:=q) (by omega)
  refine ih hC p0 (by omega) (by omega) (by omega) ?_ row_wh
  rw[row_join g1 (by omega:e≤q),row_join g2 (by omega:p≤q),hr1,hr2,h4,row_tag]
  rfl
theorem PropZ.row {s:ByteArray} {fl:Bool} {A T:List UInt8} {E C:Int} {p:Nat} (h:PropZ s (p:Int) fl A T E C) (hC:C=0) (hp:p≤s.size):sameRow s p E.toNat=true:=by
 rcases h with ⟨_,E',rfl,hZ⟩|⟨h,_⟩
 ·rw[Int.toNat_natCast] at hZ ⊢
  exact hZ.row hC p (Nat.le_refl _) (Nat.le_refl _) hp (row_self s p) (row_self s p)
 ·omega
theorem PZ.bare {s:ByteArray} {fl:Bool} {A T:List UInt8} {E:Nat} {C:Int} {p e:Nat} {a t:List UInt8} (h:PZ s fl A T E C p e a t):C=0→p≤s.size→e≤p→E=e→A=a∧T=t:=by
 cases h with
 | none h1 h2 h3 h4 h5=>intro _ _ _ _;exact ⟨h2,h3⟩
 | anchor0 h1 h2 h3 h4 h5 h6 h7=>intro hC;rw[h7] at hC;cases hC
 | tag0 h1 h2 h3 h4 h5 h6 h7=>intro hC;rw[h7] at hC;cases hC
 | anchorX h1 h2 h3 h4 h5 h6 h7 h8 h9 h10=>intro hC;rw[h10] at hC;cases hC
 | tagX h1 h2 h3 h4 h5 h6 h7 h8 h9=>intro hC;rw[h9] at hC;cases hC
 | anchorL h1 h2 h3 h4 h5 h6 h7 h8 h9 h10 h11=>intro _ hp he hE;omega
 | tagL h1 h2 h3 h4 h5 h6 h7 h8 h9 h10=>
  intro _ hp he hE
  have:=tg_pos h1 h2
  omega
 | @anchor p e a t q h1 h2 h3 h4 h5 h6 h7 h8=>
  intro hC hp he hE
  have:=nm_le (s:=s) (k:=p+1) (by omega)
  have:=wh_le (s:=s) (k:=q) (by omega)
  have:=(h8.far_le q (Nat.le_refl _) (by omega) (by omega)).1
  omega
 | @tag p e a t q h1 h2 h3 h4 h5 h6 h7=>
  intro hC hp he hE
  have:=tg_le (s:=s) (k:=p) (by omega)
  have:=wh_le (s:=s) (k:=q) (by omega)
  have:=(h7.far_le q (Nat.le_refl _) (by omega) (by omega)).1
  have:=tg_pos h1 h2
  omega
theorem PropZ.bare {s:ByteArray} {fl:Bool} {A T:List UInt8} {p:Nat} (h:PropZ s (p:Int) fl A T (p:Int) 0) (hp:p≤s.size):A=[]∧T=[]:=by
 rcases h with ⟨_,E',e,hZ⟩|⟨h,_⟩
 ·rw[Int.toNat_natCast] at hZ
  exact hZ.bare rfl hp (Nat.le_refl _) (by omega)
 ·omega
theorem QZ.row' {s:ByteArray} {q:Nat} {n:Int} {T:List UInt8} {E:Nat} {O:Bool} {C:Int} {p:Nat} {m:Bool} {R:List (List UInt8 × Bool)} {t w:List UInt8} (h:QZ s q n T E O C p m R t w) (hq:q≠10):C=0→p≤s.size→O=(R.isEmpty&&sameRow s p E):=by
 induction h with
 | over h1 h2 h3 h4 h5=>intro hC;rw[h5] at hC;cases hC
 | @done p R t w h1 h2 h3 h4 h5 h6 h7=>intro _ _;rw[h6,h5,row_step (Nat.le_refl _) (by rw[h2];exact hq),row_self,Bool.and_true]
 | @twice p R t w h1 h2 h3 h4 h5 h6 ih=>
  intro hC hp
  have:=(h6.far_le (by omega)).1
  rw[ih hC (by omega),row_step (a:=p) (c:=E) (by omega) (by rw[h3];decide),row_step (a:=p+1) (c:=E) (by omega) (by rw[h5];decide)]
 | @goes p R t w h1 h2 h3 h4 h5 h6 ih=>
  intro hC hp
  have:=(h6.far_le (by omega)).1
  rw[ih hC (by omega),row_lf (s:=s) (a:=p) (j:=p+1) (c:=E) (by omega) (by omega) h5]
  cases R <;> rfl
 | @esc p R t w c k h1 h2 h3 h4 h5 h6 ih=>
  intro hC hp
  have hl:=U.esc_len h5
  rw[drop_len] at hl
  have:=(h6.far_le (by omega)).1
  rw[ih hC (by omega),row_join (a:=p) (b:=p+k) (by omega) (by omega),row_list (by rw[drop_len];omega) (noLF_esc h5),Bool.true_and]
 | bad h1 h2 h3 h4 h5 h6 h7 h8 h9=>intro hC;rw[h9] at hC;cases hC
 | @lf p R t w h1 h2 h3 ih=>
  intro hC hp
  have:=(h3.far_le (by omega)).1
  rw[ih hC (by omega),row_lf (s:=s) (a:=p) (j:=p) (c:=E) (by omega) (by omega) h2]
  cases R <;> rfl
 | @white p R t w h1 h2 h3 ih=>
  intro hC hp
  have:=(h3.far_le (by omega)).1
  rw[ih hC (by omega),row_step (a:=p) (c:=E) (by omega) (fun e=>by rw[e] at h2;exact absurd h2 (by decide))]
 | @lit p R t w h1 h2 h3 h4 h5 h6 ih=>
  intro hC hp
  have:=(h6.far_le (by omega)).1
  rw[ih hC (by omega),row_step (a:=p) (c:=E) (by omega) h3]
 | mark h1 h2 h3 h4 h5 h6 h7=>intro hC;rw[h7] at hC;cases hC
 | near h1 h2 h3 h4 h5 h6 h7 h8 h9 h10 h11=>intro hC;rw[h11] at hC;cases hC
 | @row a b f i R t w h1 h2 h3 h4 h5 h6 h7 ih=>
  intro hC hp
  have f1:=h2.1
  have f2:=h2.2.1
  have b2:=h1.2.1
  have:=(h7.far_le (by omega)).1
  rw[ih hC (by omega),row_join (a:=a) (b:=f) f1 (by omega),sameRow_iff.2 (fun j j1 j2=>h1.2.2.1 j (by omega) j2),Bool.true_and]
theorem QuoZ.row {s:ByteArray} {n:Int} {T:List UInt8} {E:Int} {O:Bool} {C:Int} {p:Nat} (h:QuoZ s (p:Int) n T E O C) (hC:C=0):O=sameRow s p E.toNat:=by
 unfold QuoZ at h
 split at h
 ·rename_i h1
  rw[Int.toNat_natCast] at h1 h
  obtain ⟨E',rfl,hZ⟩:=h
  have hq:byt s p≠10:=by rcases h1.2.2 with e|e <;> rw[e] <;> decide
  have:=(hZ.far_le (by omega)).1
  rw[Int.toNat_natCast,hZ.row' hq hC (by omega),row_step (a:=p) (by omega) hq]
  rfl
 ·rw[h.2.2.2] at hC;cases hC
theorem PlaiG.row {s:ByteArray} {n:Int} {fl:Bool} {T:List UInt8} {E:Nat} {O:Bool} {C:Int}:∀ (g e:Nat) (R:List (List UInt8)) (one:Bool),s.size<e+g→e≤s.size→PlaiG s n fl T E O C g e R one→C=0→O=(one&&sameRow s e E):=by
 intro g
 induction g with
 | zero=>intro e R one h1 h2;omega
 | succ g ih=>
  intro e R one hg he h hC
  have hfar:=PlaiG.far_le _ _ _ _ hg he h
  unfold PlaiG at h
  obtain ⟨t,ht⟩:=RowE.ex s e he
  obtain ⟨f,hf⟩:=FirN.ex s e t ht.1
  have h:=h t f ht hf
  have t1:=ht.1
  have t2:=ht.2.1
  have hdone:∀ {T':List UInt8},T=T'∧E=e∧O=one∧C=0→O=(one&&sameRow s e E):=by
   rintro T' ⟨_,rfl,rfl,_⟩
   rw[row_self,Bool.and_true]
  split at h
  ·exact hdone h
  rename_i hn1
  have hlf:byt s t=10:=by
   rcases ht.2.2.2 with h|h
   ·omega
   ·exact h
  obtain ⟨k,a,hk⟩:=Blk.ex s (s.size+1) (t+1) (by omega)
  have hka:=hk.ge
  have h:=h k a hk
  split at h
  ·exact hdone h
  rename_i hn2
  obtain ⟨b,hb⟩:=RowE.ex s a (by omega)
  obtain ⟨i,hi⟩:=InN.ex s a b hb.1
  obtain ⟨p,hp⟩:=FirN.ex s a b hb.1
  have h:=h b i p hb hi hp
  have b1:=hb.1
  have b2:=hb.2.1
  have p1:=hp.1
  have p2:=hp.2.1
  split at h
  ·exact hdone h
  obtain ⟨q,hq⟩:=ParN.ex s fl p (by omega)
  have h:=h q hq
  have q1:=hq.ge
  have q2:=hq.le
  have q3:=hq.row (b:=b) ⟨p2,b2,fun j j1 j2=>hb.2.2.1 j j1 (by omega),hb.2.2.2⟩
  split at h
  ·exact hdone h
  obtain ⟨c,hc⟩:=FirN.ex s q b q3
  have h:=h c hc
  split at h
  ·rw[h.2.2.2] at hC;cases hC
  have h1:=ih q _ _ (by omega) q2 h hC
  have h2:=PlaiG.far_le _ _ _ _ (by omega) q2 h
  rw[h1,Bool.false_and,row_lf (s:=s) (a:=e) (j:=t) (c:=E) t1 (by omega) hlf,Bool.and_false]
theorem PlaiZ.row {s:ByteArray} {n:Int} {T:List UInt8} {E:Int} {O:Bool} {C:Int} {p:Nat} (h:PlaiZ s (p:Int) n true T E O C) (hC:C=0):O=sameRow s p E.toNat:=by
 unfold PlaiZ at h
 split at h
 ·rw[h.2.2.2] at hC;cases hC
 ·rename_i hb
  have hb:begB s (p:Int) true=true:=by simpa using hb
  have hp:=(beg_in hb).2
  rw[Int.toNat_natCast] at hp h
  obtain ⟨E',rfl,h⟩:=h
  obtain ⟨e,he⟩:=ParN.ex s true p (by omega)
  have h:=h e he
  have hfar:=PlaiG.far_le _ _ _ _ (by omega) he.le h
  rw[Int.toNat_natCast,PlaiG.row _ _ _ _ (by omega) he.le h hC,Bool.true_and,row_join (a:=p) (b:=e) he.ge (by omega)]
  have h1:sameRow s p e=true:=sameRow_iff.2 fun j j1 j2=>by
   obtain ⟨q,hq,hk⟩:=he
   have hs:=hq.2.2.1 j (by have:=hk.2.1;omega) j2
   intro h10
   unfold stopB at hs
   rw[h10,decide_eq_true rfl] at hs
   cases hs
  rw[h1,Bool.true_and]
end Go.Proofs.YtncngeamdechmaaGreatDoor
