import Derived.Test.YtkiofbikkhhdfaaGreatDoorK08
import Derived.Deep.LoopGhost
import Derived.WalkMore
namespace Go.Proofs.YtkiofbikkhhdfaaGreatDoor.To
open Go.RowKit
open Utf1
theorem refAt_here (t:List UInt8) (i:Nat)(hi:i < t.length)(h8:i<=8)(hno:∀ j,j < i->t[j]?≠some 59)(h:t[i]?=some 59):refAt t=(sf (t.take i)).map fun r=>(r,i+1):=by
 have e:t.findIdx (·==59)=i:=by
  rw[List.findIdx_eq hi]
  refine⟨?_,fun j hj=>?_⟩
  ·rw[List.getElem?_eq_getElem hi] at h
   simpa using h
  ·have:=hno j hj
   rw[List.getElem?_eq_getElem (by omega)] at this
   simpa using this
 unfold refAt
 rw[e,if_pos ⟨hi,h8⟩]
theorem refAt_not (t:List UInt8) (i:Nat)(h:t.length<=i\/9<=i)(hno:∀ j,j < i->t[j]?≠some 59):refAt t=none:=by
 unfold refAt
 rw[if_neg]
 rintro ⟨h1,h2⟩
 have h3:=List.findIdx_getElem (w:=h1)
 have hlt:t.findIdx (·==59) < i:=by omega
 refine hno _ hlt ?_
 rw[List.getElem?_eq_getElem h1]
 simpa using h3
theorem getE_drop (s:ByteArray) (k j:Nat)(h:k+j < s.size):((bl s).drop k)[j]?=some ((bl s)[k+j]'(by rw[bl_len];exact h)):=by
 rw[List.getElem?_drop,List.getElem?_eq_getElem]
theorem builder_below {T e:TypeId}{B b:Nat}{bs:List Value}{W W':World}(h:Lib.IsBuilderF T e B b bs W)(hb:Below W.heap.size W W'):Lib.IsBuilderF T e B b bs W':=by
 have one:∀ p,Lib.BuilderAtF T e B b p bs W->Lib.BuilderAtF T e B b p bs W':=by
  intro p h
  have hlt:=h.lt
  obtain⟨hB,v,hv,hown,hne⟩:=h
  exact⟨hB,v,(hb.block b hlt).trans hv,hown.kept (row:=none) ⟨hb.os,hb.tape,hb.output,hb.size,fun k hk _=>hb.block k hk⟩ (Classical.em _),hne⟩
 exact h.elim (fun x=>.inl (one _ x)) (fun x=>.inr (one _ x))
set_option maxHeartbeats 4000000 in
set_option maxRecDepth 100000 in
theorem resolve_any (s:ByteArray)(hs:s.size<=1099511627776) (w:World)(hg:Glob w) :
  Calls Tryz.prog 65 #[.string s] w fun e w'=>e=.returned (.string ⟨(res (bl s)).toArray⟩)/\Below w.heap.size w w':=by
 go_enter Tryz.func65,Tryz.ntmps65
 go_wp2
 go_step3
 go_wp2
 go_step3
 go_wp2
 go_loopg [4] s.size (fun g v wr=>∃ (p:Nat) (acc:List UInt8),p+g=s.size/\v=.int .i64 (p:Int)/\acc.length<=p/\Lib.IsBuilderF 59 5 w.heap.size w.heap.size (Lib.byteCells acc) wr/\Below w.heap.size w wr/\Hid (acc++res ((bl s).drop p)=res (bl s)))
 case atStart =>
  exact⟨0,[],by omega,rfl,by simp,Lib.IsBuilderF.of (Lib.fresh_isBuilder 59 5 w),(Below.refl _ w).alloc (Nat.le_refl _) _,hide rfl⟩
 case round =>
  obtain⟨p,acc,hpg,rfl,hal,hI,hbw,HA⟩:=hrel
  obtain⟨og,rfl⟩:∃ q,q=gk:=⟨gk,rfl⟩
  by_cases hlt:p < s.size
  ·have i0:∀ w,(Instr.index 9 (.string s) (.int .i64 (p:Int))).run Tryz.prog w=.ok (.int .u8 (atN ((bl s).drop p) 0:Nat)) w:=idx_run s p 0 hlt
   rw[atN_drop s p hlt] at i0
   have hdc:=drop_cons s p hlt
   generalize (bl s)[p]'(by rw[bl_len];exact hlt)=c at i0 hdc
   obtain⟨z,hz⟩:∃ z:Int,z=(c.toNat:Int):=⟨_,rfl⟩
   rw[<-hz] at i0
   have HZ:=hide hz
   have z0:0<=z:=by omega
   have z1:z<=255:=by have:=c.toNat_lt;omega
   by_cases h38:c=38
   ·have hz38:z=38:=by rw[hz,h38];rfl
    subst hz38
    subst h38
    clear hz HZ z0 z1
    have HN0:refAt ((bl s).drop (p+1))=none->Hid ((acc++[38])++res ((bl s).drop (p+1))=res (bl s)):=fun h=>hide (by rw[<-HA.out,hdc,res_none _ h];simp)
    have HN1:∀ r k,refAt ((bl s).drop (p+1))=some (r,k)->Hid ((acc++er r)++res ((bl s).drop (p+1+k))=res (bl s)):=fun r k h=>hide (by rw[<-HA.out,hdc,res_some _ r k h,List.drop_drop];simp)
    have HNS:=hide (And.intro HN0 HN1)
    clear HN0 HN1 hdc HA
    go_wp2
    go_loopg [4,5] 9 (fun g2 v4 v wy=>∃ (i e:Nat),v4=.int .i64 (p:Int)/\i+g2=9/\Hid (e=p+1+i)/\v=.int .i64 (e:Int)/\e<=s.size/\wy=wr/\Hid (∀ j,j < i->((bl s).drop (p+1))[j]?≠some 59))
    case atStart=>exact⟨0,p+1,rfl,by omega,hide rfl,by first | rfl | simp,by omega,rfl,hide (by intro j hj;omega)⟩
    case round =>
     obtain⟨i,e,rfl,hig,HE,rfl,hes,rfl,HJ⟩:=hrel
     have hep:p+1<=e:=by have:=HE.out;omega
     have hi9:i<=9:=by omega
     have leave:∀ (wx:World),Below wr.heap.size wr wx->Hid (refAt ((bl s).drop (p+1))=none)->Calls Tryz.prog 75 #[.pointer (some ⟨w.heap.size,0,none⟩),.int .u8 38] wx fun e w'=>e=.returned .nilIface/\Lib.IsBuilderF 59 5 w.heap.size w.heap.size (Lib.byteCells (acc++[38])) w'/\Below w.heap.size w w'/\Hid ((acc++[38])++res ((bl s).drop (p+1))=res (bl s)):=by
      intro wx hbx HR
      refine (Tryz.Builder_WriteByte_k w.heap.size w.heap.size _ 38 _ (builder_below hI hbx) (by rw[Lib.byteCells_length];omega) (Nat.le_trans hbw.size hbx.size)).mono ?_
      rintro e W1 ⟨rfl,h1,b1,_⟩
      refine⟨rfl,?_,(hbw.trans (hbx.mono hbw.size)).trans b1,HNS.out.1 HR.out⟩
      rw[Lib.byteCells_append]
      exact Or.inr h1
     by_cases hin:e < s.size/\i<=8
     ·obtain⟨hel,hi8⟩:=hin
      have he9:e<=p+9:=by have:=HE.out;omega
      have ie:∀ w,(Instr.index 9 (.string s) (.int .i64 (e:Int))).run Tryz.prog w=.ok (.int .u8 (atN ((bl s).drop e) 0:Nat)) w:=idx_run s e 0 hel
      rw[atN_drop s e hel] at ie
      have hge:=getE_drop s (p+1) i (by have:=HE.out;omega)
      have hge:((bl s).drop (p+1))[i]?=some ((bl s)[e]'(by rw[bl_len];exact hel)):=by rw[hge];simp only[HE.out]
      generalize (bl s)[e]'(by rw[bl_len];exact hel)=c2 at ie hge
      obtain⟨y,hy⟩:∃ y:Int,y=(c2.toNat:Int):=⟨_,rfl⟩
      rw[<-hy] at ie
      have y0:0<=y:=by omega
      have y1:y<=255:=by have:=c2.toNat_lt;omega
      by_cases h59:c2=59
      ·have hy59:y=59:=by rw[hy,h59];rfl
       subst hy59
       subst h59
       have hsz:(s.extract (p+1) e).size<=8:=by have:=HE.out;simp;omega
       have hsf:=fun w hg=>standsFor_any (s.extract (p+1) e) hsz w hg
       have hbe:bl (s.extract (p+1) e)=((bl s).drop (p+1)).take i:=by rw[extract_bl];congr 1;have:=HE.out;omega
       have href:=refAt_here ((bl s).drop (p+1)) i (by have:=HE.out;rw[List.length_drop,bl_len];omega) hi8 HJ.out hge
       rw[hbe] at hsf
       clear hy y0 y1 hge HJ hbe hsz
       cases hsv:sf (((bl s).drop (p+1)).take i) with
       | some r =>
        rw[hsv] at hsf href
        have HR:=HNS.out.2 r (i+1) href
        have hsc:=(sf_facts hsv)
        have hi2:2<=i:=by have:=hsc.1;rw[List.length_take] at this;omega
        have her:=er_len r
        unfold optS at hsf
        have hsf:∀ w,Glob w->Calls Tryz.prog 122 #[.string (s.extract (p+1) e)] w fun e w'=>e=.returned (.tuple #[.string ⟨(er r).toArray⟩,.bool true])/\Below w.heap.size w w':=hsf
        have hA:(⟨(er r).toArray⟩:ByteArray).size=(er r).length:=size_mk _
        have hAc:Lib.strCells (⟨(er r).toArray⟩:ByteArray)=Lib.byteCells (er r):=rfl
        generalize (⟨(er r).toArray⟩:ByteArray)=A at hsf hA hAc
        clear href hsc hsv HNS leave
        go_wp2_with fail
        refine (hsf _ (hg.below hbw)).mono ?_
        rintro e1 w1 ⟨rfl,hb1⟩
        go_wp2_with fail
        refine (Tryz.Builder_WriteString_k w.heap.size w.heap.size _ A _ (builder_below hI hb1) (by rw[Lib.byteCells_length];omega) (Nat.le_trans hbw.size hb1.size)).mono ?_
        rintro e1 w2 ⟨rfl,h1,b1,_⟩
        go_wp2_with fail
        have hE:=HE.out
        go_roundg (og - (i+2))
        case measure=>omega
        case rel =>
         refine⟨e+1,acc++er r,by omega,by first | rfl | simp,by simp;omega,?_,(hbw.trans (hb1.mono hbw.size)).trans b1,hide ?_⟩
         ·rw[Lib.byteCells_append,<-hAc]
          exact Or.inr h1
         ·rw[<-HR.out,show e+1=p+1+(i+1) by omega]
       | none =>
        rw[hsv] at hsf href
        unfold optS at hsf
        have hsf:∀ w,Glob w->Calls Tryz.prog 122 #[.string (s.extract (p+1) e)] w fun e w'=>e=.returned (.tuple #[.string ⟨#[]⟩,.bool false])/\Below w.heap.size w w':=hsf
        have HR:=hide href
        have HR:Hid (refAt ((bl s).drop (p+1))=none):=HR
        clear href hsv HNS
        go_wp2_with fail
        refine (hsf _ (hg.below hbw)).mono ?_
        rintro e1 w1 ⟨rfl,hb1⟩
        go_wp2_with fail
        refine (leave _ hb1 HR).mono ?_
        rintro e1 w2 ⟨rfl,h1,b1,HN⟩
        go_wp2_with fail
        go_roundg (og - 1)
        case measure=>omega
        case rel=>exact⟨p+1,acc++[38],by omega,by first | rfl | simp,by simp;omega,h1,b1,HN⟩
      ·have hb59:(y != 59)=true:=bne_iff_ne.2 (by
        intro e
        apply h59
        have:c2=UInt8.ofNat 59:=(u8_eq (by decide)).2 (by omega)
        exact this)
       have HJ2:Hid (∀ j,j < i+1->((bl s).drop (p+1))[j]?≠some 59):=hide (by
        intro j hj
        by_cases hji:j=i
        ·subst hji
         rw[hge]
         intro e
         apply h59
         simpa using e
        ·exact HJ.out j (by omega))
       clear hy hge HJ HNS leave
       go_wp2
       have hE:=HE.out
       go_roundg (gk - 1)
       case measure=>omega
       case rel=>exact⟨i+1,e+1,rfl,by omega,hide (by omega),by first | rfl | simp,by omega,rfl,HJ2⟩
     ·have HR:Hid (refAt ((bl s).drop (p+1))=none):=hide (refAt_not _ i (by have:=HE.out;rw[List.length_drop,bl_len];omega) HJ.out)
      by_cases hel:e < s.size
      ·have hi10:e=p+10:=by have:=HE.out;omega
       have hd9:¬ (e:Int) - (p:Int)<=9:=by omega
       clear HJ HNS hin
       go_wp2_with fail
       refine (leave _ (Below.refl _ _) HR).mono ?_
       rintro e1 w2 ⟨rfl,h1,b1,HN⟩
       go_wp2_with fail
       go_roundg (og - 1)
       case measure=>omega
       case rel=>exact⟨p+1,acc++[38],by omega,by first | rfl | simp,by simp;omega,h1,b1,HN⟩
      ·clear HJ HNS hin
       go_wp2_with fail
       refine (leave _ (Below.refl _ _) HR).mono ?_
       rintro e1 w2 ⟨rfl,h1,b1,HN⟩
       go_wp2_with fail
       go_roundg (og - 1)
       case measure=>omega
       case rel=>exact⟨p+1,acc++[38],by omega,by first | rfl | simp,by simp;omega,h1,b1,HN⟩
   ·have hb38:(z==38)=false:=beq_eq_false_iff_ne.2 (by
     intro e
     apply h38
     have:c=UInt8.ofNat 38:=(u8_eq (by decide)).2 (by omega)
     exact this)
    have HN:Hid ((acc++[c])++res ((bl s).drop (p+1))=res (bl s)):=hide (by rw[<-HA.out,hdc,res_plain c _ h38];simp)
    clear HA hdc hz
    go_wp2_with (go_at_call 75;refine (Tryz.Builder_WriteByte_k w.heap.size w.heap.size _ z _ hI (by rw[Lib.byteCells_length];omega) hbw.size).mono ?_)
    rintro e W1 ⟨rfl,h1,b1,_⟩
    go_wp2
    go_roundg (og - 1)
    case measure=>omega
    case rel =>
     refine⟨p+1,acc++[c],by omega,by first | rfl | simp,by simp;omega,?_,hbw.trans b1,HN⟩
     rw[Lib.byteCells_append]
     rw[HZ.out] at h1
     exact Or.inr h1
  ·go_wp2_with (go_at_call 73;refine (Tryz.Builder_String_any_k w.heap.size w.heap.size acc _ hI hbw.size).mono ?_)
   rintro e W1 ⟨rfl,_,b1,_⟩
   go_wp2
   try rw[Exit.noGoto_ret]
   go_ret
   have hacc:=HA.out
   rw[drop_all s p hlt,res_nil,List.append_nil] at hacc
   rw[hacc]
   exact⟨rfl,hbw.trans b1⟩
end Go.Proofs.YtkiofbikkhhdfaaGreatDoor.To
namespace Go.Proofs.YtkiofbikkhhdfaaGreatDoor.To
open Go.RowKit
open Utf1
theorem refOf_any (r:Nat) (q:Bool)(hr:r<=1114111) (w:World) :
  Calls Tryz.prog 77 #[.int .i32 (r:Int),.bool q] w fun e w'=>e=.returned (.string ⟨(refOf q r).toArray⟩)/\w'=w:=by
 by_cases h1:r=38
 ·subst h1
  go_enter Tryz.func77,Tryz.ntmps77
  go_wp2
  go_ret
  exact⟨rfl,rfl⟩
 by_cases h2:r=60
 ·subst h2
  go_enter Tryz.func77,Tryz.ntmps77
  go_wp2
  go_ret
  exact⟨rfl,rfl⟩
 by_cases h3:r=62
 ·subst h3
  go_enter Tryz.func77,Tryz.ntmps77
  go_wp2
  go_ret
  exact⟨rfl,rfl⟩
 by_cases h4:r=160
 ·subst h4
  go_enter Tryz.func77,Tryz.ntmps77
  go_wp2
  go_ret
  exact⟨rfl,rfl⟩
 have e1:((r:Int)==38)=false:=beq_eq_false_iff_ne.2 (by omega)
 have e2:((r:Int)==60)=false:=beq_eq_false_iff_ne.2 (by omega)
 have e3:((r:Int)==62)=false:=beq_eq_false_iff_ne.2 (by omega)
 have e4:((r:Int)==160)=false:=beq_eq_false_iff_ne.2 (by omega)
 by_cases h5:r=34
 ·subst h5
  cases q
  ·go_enter Tryz.func77,Tryz.ntmps77
   go_wp2
   go_ret
   exact⟨rfl,rfl⟩
  ·go_enter Tryz.func77,Tryz.ntmps77
   go_wp2
   go_ret
   exact⟨rfl,rfl⟩
 have e5:((r:Int)==34)=false:=beq_eq_false_iff_ne.2 (by omega)
 have HR:Hid (refOf q r=[]):=hide (by
  unfold refOf
  rw[if_neg h1,if_neg h2,if_neg h3,if_neg h4,if_neg (fun h=>h5 h.1)])
 rw[HR.out]
 obtain⟨z,hz⟩:∃ z:Int,z=(r:Int):=⟨_,rfl⟩
 rw[<-hz] at e1 e2 e3 e4 e5 ⊢
 clear hz h1 h2 h3 h4 h5 HR
 go_enter Tryz.func77,Tryz.ntmps77
 go_wp2
 go_ret
 exact⟨rfl,rfl⟩
theorem refOf_len (q:Bool) (r:Nat):(refOf q r).length<=6:=by
 unfold refOf
 repeat' (split;· decide)
 decide
theorem toList_empty (l:List UInt8):(⟨l.toArray⟩:ByteArray).toList.isEmpty=l.isEmpty:=by
 rw[ByteArray.toList_eq]
theorem take_more (l:List UInt8) (dn pos wd:Nat)(h:dn<=pos):(l.drop dn).take (pos+wd - dn)=(l.drop dn).take (pos - dn)++(l.drop pos).take wd:=by
 rw[show pos+wd - dn=(pos - dn)+wd by omega,List.take_add,List.drop_drop,show dn+(pos - dn)=pos by omega]
theorem strCells_ext (s:ByteArray) (a b:Nat):Lib.strCells (s.extract a b)=Lib.byteCells (((bl s).drop a).take (b - a)):=by
 unfold Lib.strCells
 rw[Lib.extract_data]
 rfl
set_option maxHeartbeats 4000000 in
set_option maxRecDepth 100000 in
theorem escape_any (s:ByteArray) (q:Bool) (w:World)(hs:s.size<=1099511627776) :
  Calls Tryz.prog 28 #[.string s,.bool q] w fun e w'=>e=.returned (.string ⟨(esc q (bl s)).toArray⟩)/\Below w.heap.size w w':=by
 go_enter Tryz.func28,Tryz.ntmps28
 go_wp2
 go_loopw [6] (fun v wr=>∃ (pos dn:Nat) (acc:List UInt8),v=.int .i64 (dn:Int)/\dn<=pos/\pos<=s.size/\acc.length<=6*dn/\Lib.IsBuilderF 59 5 w.heap.size w.heap.size (Lib.byteCells acc) wr/\wr.heap[w.heap.size+1]?=some (.stringIter s pos)/\Below w.heap.size w wr/\Hid (acc++(((bl s).drop dn).take (pos - dn)++esc q ((bl s).drop pos))=esc q (bl s))) (fun _ wr=>s.size - wr.iterPos (w.heap.size+1))
 case atStart =>
  refine⟨0,0,[],rfl,by omega,by omega,by simp,(Lib.IsBuilderF.of (Lib.fresh_isBuilder 59 5 w)).alloc _,?_,((Below.refl _ w).alloc (Nat.le_refl _) _).alloc (by simp) _,hide (by simp)⟩
  have:=World.iter_heap (w.alloc (.cells #[.pointer none,.slice none 0 0] 59)) s 0
  simpa using this
 case round =>
  obtain⟨pos,dn,acc,rfl,hdn,hp,hal,hI,hit,hbw,HA⟩:=hrel
  have hsz:w.heap.size+1 < wr.heap.size:=(Array.getElem?_eq_some_iff.1 hit).1
  by_cases hlt:pos < s.size
  ·obtain⟨r,wd,hw1,hw4,hwl,hr,hdl,hnx⟩:=next_some Tryz.prog wr (w.heap.size+1) s pos hit hlt
   have hI2:=hI.iterAt hit (pos+wd)
   have hit2:=Lib.iterAt_heap wr (w.heap.size+1) s pos (pos+wd) hit
   have hbw2:=Lib.below_iterAt hbw (k:=w.heap.size+1) (by omega) s (pos+wd)
   have hsz2:w.heap.size<=(wr.iterAt (w.heap.size+1) s (pos+wd)).heap.size:=by rw[Lib.iterAt_size];omega
   have hne:=drop_ne s pos hlt
   have hstep:=esc_step q _ hne
   unfold esc1 at hstep
   have hrw:=refOf_width q _ hne
   have hscal:=dl_scalar _ hne
   rw[hdl] at hstep hrw hscal
   simp only at hstep hrw hscal
   rw[List.drop_drop] at hstep
   have hcr:=fun w=>refOf_any r q hr w
   by_cases h0:refOf q r=[]
   ·rw[if_pos h0] at hstep
    rw[h0] at hcr
    have HN:Hid (acc++(((bl s).drop dn).take (pos+wd - dn)++esc q ((bl s).drop (pos+wd)))=esc q (bl s)):=hide (by rw[<-HA.out,hstep,take_more _ _ _ _ hdn];simp)
    clear hstep hrw hdl hscal HA h0
    go_wp2_with fail
    refine (hcr _).mono ?_
    rintro e w1 ⟨rfl,rfl⟩
    go_wp2_with fail
    go_roundw
    case rel=>exact⟨pos+wd,dn,acc,rfl,by omega,hwl,hal,hI2,hit2,hbw2,HN⟩
    case measure =>
     simp only[World.iterPos,hit2,hit]
     omega
   ·rw[if_neg h0] at hstep
    obtain⟨hwd,_⟩:=hrw h0
    have hrl:=refOf_len q r
    have HN:Hid ((acc++((bl s).drop dn).take (pos - dn)++refOf q r)++(((bl s).drop (pos+wd)).take (pos+wd - (pos+wd))++esc q ((bl s).drop (pos+wd)))=esc q (bl s)):=hide (by rw[<-HA.out,hstep];simp)
    have hR0:(⟨(refOf q r).toArray⟩:ByteArray).toList.isEmpty=false:=by
     rw[toList_empty]
     cases hh:refOf q r with
     | nil=>exact absurd hh h0
     | cons a b=>rfl
    have hRc:Lib.strCells (⟨(refOf q r).toArray⟩:ByteArray)=Lib.byteCells (refOf q r):=rfl
    have hRs:(⟨(refOf q r).toArray⟩:ByteArray).size<=6:=by rw[size_mk];exact hrl
    have hen:=encode_er r hscal
    have hes:(Utf8.encode (r:Int)).size=wd:=by rw[hen,size_mk,hwd]
    have hXc:=strCells_ext s dn pos
    have hXs:(s.extract dn pos).size=pos - dn:=by simp;omega
    clear hen
    have hll:(((bl s).drop dn).take (pos - dn)).length=pos - dn:=by rw[List.length_take,List.length_drop,bl_len];omega
    generalize (⟨(refOf q r).toArray⟩:ByteArray)=R at hcr hR0 hRc hRs
    clear hstep hrw hdl hscal HA h0 hwd hne
    go_wp2_with fail
    refine (hcr _).mono ?_
    rintro e w1 ⟨rfl,rfl⟩
    go_wp2_with fail
    refine (Tryz.Builder_WriteString_k w.heap.size w.heap.size _ (s.extract dn pos) _ hI2 (by rw[Lib.byteCells_length];omega) hsz2).mono ?_
    rintro e w1 ⟨rfl,h1,b1,k1⟩
    have hit3:=k1.iter hit2 (by omega)
    rw[hXc,<-Lib.byteCells_append] at h1
    go_wp2_with fail
    refine (Tryz.Builder_WriteString_k w.heap.size w.heap.size _ R _ (Or.inr h1) (by rw[Lib.byteCells_length,List.length_append];omega) (Nat.le_trans hsz2 b1.size)).mono ?_
    rintro e w2 ⟨rfl,h2,b2,k2⟩
    have hit4:=k2.iter hit3 (by omega)
    rw[hRc,<-Lib.byteCells_append] at h2
    go_wp2_with fail
    go_roundw
    case rel =>
     refine⟨pos+wd,pos+wd,_,by first | rfl | simp,by omega,hwl,?_,Or.inr h2,hit4,(hbw2.trans b1).trans b2,HN⟩
     rw[List.length_append,List.length_append,hll]
     omega
    case measure =>
     simp only[World.iterPos,hit4,hit]
     omega
  ·have hnx:∀ ty,(Instr.next (.pointer (some ⟨w.heap.size+1,0,none⟩)) true ty).run Tryz.prog wr=_:=fun ty=>Lib.run_next_end_at wr (w.heap.size+1) s pos ty hit hlt
   have hXc:=strCells_ext s dn s.size
   have hXs:(s.extract dn s.size).size=s.size - dn:=by simp
   have hsz2:w.heap.size<=wr.heap.size:=by omega
   go_wp2_with fail
   refine (Tryz.Builder_WriteString_k w.heap.size w.heap.size _ (s.extract dn s.size) _ hI (by rw[Lib.byteCells_length];omega) hsz2).mono ?_
   rintro e w1 ⟨rfl,h1,b1,k1⟩
   rw[hXc,<-Lib.byteCells_append] at h1
   go_wp2_with fail
   refine (Tryz.Builder_String_any_k w.heap.size w.heap.size _ _ (Or.inr h1) (Nat.le_trans hsz2 b1.size)).mono ?_
   rintro e w2 ⟨rfl,_,b2,_⟩
   go_wp2_with fail
   go_ret
   have hps:pos=s.size:=by omega
   have hacc:=HA.out
   rw[drop_all s pos hlt,esc_nil,List.append_nil,hps] at hacc
   rw[hacc]
   exact⟨rfl,(hbw.trans b1).trans b2⟩
end Go.Proofs.YtkiofbikkhhdfaaGreatDoor.To
