import Derived.Test.YtkiofbikkhhdfaaGreatDoorK15
import Derived.Test.YtkiofbikkhhdfaaGreatDoorRows
import Derived.Test.YtkiofbikkhhdfaaGreatDoorK24
import Derived.ProofKit
import Derived.LaidMore
import Derived.Lay
import Derived.OpenShut
import Derived.Stop.Joined
import Derived.Stop.LaidErr
import Derived.Shelf.Vars
import Derived.SizedLaws
namespace Go.Proofs.YtkiofbikkhhdfaaGreatDoor.Dm
open Go.RowKit
open Utf1
def AttrRow (w:World) (p:Option Addr) (m:Nat) (at':List (List UInt8 × List UInt8)):Prop:=m=at'.length/\∀ i kv,at'[i]?=some kv->∃ b off,p=some ⟨b,off,none⟩/\w.cell? ⟨b,off+i*2,none⟩=some (.string ⟨kv.1.toArray⟩)/\w.cell? ⟨b,off+i*2+1,none⟩=some (.string ⟨kv.2.toArray⟩)/\kv.1.length<=281474976710656/\kv.2.length<=281474976710656
theorem infoAttr:(Tryz.prog.info? 117).map (fun i=>(i.zero,i.size,i.bytes))=some (some (.agg #[.string ⟨#[]⟩,.string ⟨#[]⟩]),2,32):=by kernel_rfl
theorem five_newA (w:World) (A:Array Value) (ty:TypeId):∀ j u,A.toList[j]?=some u->(w.alloc (.cells A ty)).cell? ((⟨w.heap.size,0,none⟩:Addr).add j)=some u:=by
 intro j u h
 have:(⟨w.heap.size,0,none⟩:Addr).add j=⟨w.heap.size,j,none⟩:=by
  simp[Addr.add]
  exact Eq.symm
 rw[this,new_cell,<-Array.getElem?_toList]
 exact h
theorem attr_one (a b:ByteArray):∀ u∈[Value.string a,.string b],u.oneCell'=true:=by
 intro u hu
 simp only[List.mem_cons,List.not_mem_nil,or_false] at hu
 rcases hu with rfl | rfl <;> rfl
set_option maxRecDepth 100000 in
set_option maxHeartbeats 8000000 in
theorem clone_attrs (w wx:World) (p:Option Addr) (m c:Nat) (at':List (List UInt8 × List UInt8))(h:AttrRow w p m at')(hm:m<=1000000)(hb:Below w.heap.size w wx) :
  Calls Tryz.prog 156 #[.slice p m c] wx fun e w'=>∃ ap am ac,e=.returned (.slice ap am ac)/\w'.ownsRow wx.heap.size 117 2 (.slice ap am ac) at'.length (attrCells at')/\Below wx.heap.size wx w':=by
 obtain⟨hml,hcell⟩:=h
 have HC:=hide hcell
 have HML:=hide hml
 have HBX:=hide hb
 obtain⟨i0,hi,hz0,hz1,hz2'⟩:=info_parts infoAttr
 clear hcell hml hb
 go_enter Tryz.func156,Tryz.ntmps156
 go_wp2_with fail
 go_loopg [3,8] m (fun k v3 v8 wr=>∃ i:Nat,i+k=m/\v8=.int .i64 (i:Int)/\(∃ p m c,v3=.slice p m c)/\Hid (wr.ownsRow wx.heap.size 117 2 v3 i (attrCells (at'.take i)))/\Hid (Below wx.heap.size wx wr))
 case atStart=>exact⟨0,by omega,rfl,⟨_,_,_,rfl⟩,hide (World.ownsRow_nil _ _ _ _),hide (Below.refl _ _)⟩
 case round =>
  obtain⟨i,hik,rfl,⟨q,n,c2,rfl⟩,HO,HB⟩:=hrel
  by_cases hlt:i < m
  ·have hd:decide ((i:Int) < (m:Int))=true:=decide_eq_true (by omega)
   have hlt':i < at'.length:=by rw[<-HML.out];exact hlt
   have hge:at'[i]?=some at'[i]:=List.getElem?_eq_getElem hlt'
   generalize at'[i]=pr at hge
   obtain⟨kn,kv⟩:=pr
   obtain⟨b,off,rfl,x0,x1,hl0,hl1⟩:=HC.out i _ hge
   have hbr:=HBX.out.trans (HB.out.mono HBX.out.size)
   replace x0:=cell_keep x0 hbr
   replace x1:=cell_keep x1 hbr
   obtain⟨XN,hXN⟩:∃ X:ByteArray,X=⟨kn.toArray⟩:=⟨_,rfl⟩
   obtain⟨XV,hXV⟩:∃ X:ByteArray,X=⟨kv.toArray⟩:=⟨_,rfl⟩
   simp only[] at x0 x1 hl0 hl1
   rw[<-hXN] at x0
   rw[<-hXV] at x1
   have hs0:XN.size<=281474976710656:=by rw[hXN];exact hl0
   have hs1:XV.size<=281474976710656:=by rw[hXV];exact hl1
   have HTK:Hid (at'.take (i+1)=at'.take i++[(kn,kv)]):=hide (by rw[List.take_add_one,hge];rfl)
   have hzw:wx.heap.size<=wr.heap.size:=HB.out.size
   obtain⟨w2,hw2⟩:∃ w2,w2=wr.alloc (.cells #[.string XN,.string XV] 117):=⟨_,rfl⟩
   have hb2:Below wr.heap.size wr w2:=by rw[hw2];exact (Below.refl _ _).alloc (Nat.le_refl _) _
   have y0:w2.cell? ⟨wr.heap.size,0,none⟩=some (.string XN):=by rw[hw2,new_cell];rfl
   have y1:w2.cell? ⟨wr.heap.size,1,none⟩=some (.string XV):=by rw[hw2,new_cell];rfl
   have hbd:Below w2.heap.size w2 w2.drew:=bel_one _
   replace y0:=cell_keep y0 hbd
   replace y1:=cell_keep y1 hbd
   have HO2:=hide (own_below (own_below HO.out hb2) hbd)
   have hz2:wx.heap.size<=w2.drew.heap.size:=Nat.le_trans hzw (Nat.le_trans hb2.size hbd.size)
   have HB2:=hide ((HB.out.trans (hb2.mono hzw)).trans (hbd.mono (Nat.le_trans hzw hb2.size)))
   have HXN:=hide hXN
   have HXV:=hide hXV
   clear hge hbr HO HB hb2 hbd hl0 hl1 hXN hXV
   go_upto_region 5 with fail
   rw[<-hw2]
   clear hw2 x0 x1
   refine wp_region_any (by kernel_rfl) ?_
   try (change wpAny _ _ _ _ _ _ _ (World.drew _))
   refine wpAny_to (i:=0) (v:=.slice q n c2) (a':=?ax0q2) rfl (by kernel_rfl) (by kernel_rfl) (by kernel_rfl) (fun _ _ _ h=>h) (Or.inl ⟨by rfl,?yi⟩) ?ha ?_
   case yi=>intro w;go_simp
   case ha=>go_simp;try exact rfl
   refine wpAny_to (i:=1) (v:=.pointer (some ⟨wr.heap.size,0,none⟩)) (a':=?ax1q3) rfl (by kernel_rfl) (by kernel_rfl) (by kernel_rfl) (fun _ _ _ h=>h) (Or.inl ⟨by rfl,?yi⟩) ?ha ?_
   case yi=>intro w;go_simp
   case ha=>go_simp;try exact rfl
   refine wpAny_to (i:=4) (v:=.pointer (some ⟨wr.heap.size,1,none⟩)) (a':=?ax4q4) rfl (by kernel_rfl) (by kernel_rfl) (by kernel_rfl) (fun _ _ _ h=>h) (Or.inl ⟨by rfl,?yi⟩) ?ha ?_
   case yi=>intro w;go_simp
   case ha=>go_simp;try exact rfl
   refine wpAny_ready (rs:=[2,5]) (by kernel_rfl) (by simp) ?_
   refine AllReady.cons rfl (fun K hK=>?_) (AllReady.cons rfl (fun K hK=>?_) AllReady.nil)
   ·go_simp
    go_wp2_with fail
    refine wpAny_ready (rs:=[3,5]) (by kernel_rfl) (by simp) ?_
    refine AllReady.cons rfl (fun K hK=>?_) (AllReady.cons rfl (fun K hK=>?_) AllReady.nil)
    ·go_simp
     go_wp2_with fail
     refine (clone_any XN _ (by omega)).mono ?_
     rintro e wn ⟨rfl,hbn⟩
     replace y0:=cell_keep y0 hbn
     replace y1:=cell_keep y1 hbn
     replace HO2:=hide (own_below HO2.out hbn)
     replace HB2:=hide (HB2.out.trans (hbn.mono hz2))
     replace hz2:=Nat.le_trans hz2 hbn.size
     clear hbn
     go_wp2_with fail
     refine wpAny_ready (rs:=[5]) (by kernel_rfl) (by simp) ?_
     refine AllReady.cons rfl (fun K hK=>?_) AllReady.nil
     go_simp
     go_wp2_with fail
     refine wpAny_ready (rs:=[6]) (by kernel_rfl) (by simp) ?_
     refine AllReady.cons rfl (fun K hK=>?_) AllReady.nil
     go_simp
     go_wp2_with fail
     refine (clone_any XV _ (by omega)).mono ?_
     rintro e wn ⟨rfl,hbn⟩
     replace y0:=cell_keep y0 hbn
     replace y1:=cell_keep y1 hbn
     replace HO2:=hide (own_below HO2.out hbn)
     replace HB2:=hide (HB2.out.trans (hbn.mono hz2))
     replace hz2:=Nat.le_trans hz2 hbn.size
     clear hbn
     go_wp2_with fail
     refine wpAny_to (i:=7) (v:=.agg #[.string XN,.string XV]) (a':=?ax7z5q1) rfl (by kernel_rfl) (by kernel_rfl) (by kernel_rfl) (fun _ _ _ h=>h) (Or.inl ⟨by rfl,?yi⟩) ?ha ?_
     case yi=>intro w;go_simp
     case ha=>go_simp;try exact rfl
     refine wpAny_ready (rs:=[8]) (by kernel_rfl) (by simp) ?_
     refine AllReady.cons rfl (fun K hK=>?_) AllReady.nil
     go_simp
     go_wp2_with fail
     have hal:Below wn.heap.size wn (wn.alloc (.cells #[.string XN,.string XV] 117)):=(Below.refl _ _).alloc (Nat.le_refl _) _
     have HO3:=hide (own_below HO2.out hal)
     have HB3:=hide (HB2.out.alloc hz2 (.cells #[.string XN,.string XV] 117))
     clear hal
     refine wpAny_ready (rs:=[9]) (by kernel_rfl) (by simp) ?_
     refine AllReady.cons rfl (fun K hK=>?_) AllReady.nil
     rw[if_pos (by rfl)]
     refine wp_append_own _ (.tmp 12) (.tmp 20) 52 rfl wx.heap.size 117 i0 _ 2 32 Tryz.underlying52 hi hz0 hz1 hz2' rfl (by decide) (.slice q n c2) i (attrCells (at'.take i)) rfl HO3.out ⟨wn.heap.size,0,none⟩ 1 1 [.string XN,.string XV] rfl rfl (five_newA wn _ _) (attr_one _ _) (by unfold maxLen;omega) (by omega) (by simp;omega) ?_
     intro v' w5 hown5 hgr5 _
     obtain⟨bp,bm,bc,rfl⟩:=own_slice hown5
     have HB5:=hide (HB3.out.grown hgr5 (by simp;omega) (fun j hj=>(HO3.out.lt j hj).1))
     have HO5:Hid (w5.ownsRow wx.heap.size 117 2 (.slice bp bm bc) (i+1) (attrCells (at'.take (i+1)))):=hide (by
      rw[HTK.out,attrCells_app]
      have e:attrCells [(kn,kv)]=[.string XN,.string XV]:=by rw[HXN.out,HXV.out];rfl
      rw[e]
      exact hown5)
     clear hown5 hgr5 HO2 HB2 HO3 HB3 y0 y1
     refine hK _ _ ?_
     clear hK K
     refine wpAny_ready (rs:=[10]) (by kernel_rfl) (by simp) ?_
     refine AllReady.cons rfl (fun K hK=>?_) AllReady.nil
     go_simp
     go_wp2_with fail
     refine wpAny_done (by kernel_rfl) ?_ _
     go_wp2_with fail
     go_roundg (gk - 1)
     case measure=>omega
     case rel=>exact⟨i+1,by omega,by first | rfl | simp,⟨_,_,_,rfl⟩,HO5,HB5⟩
    ·go_simp
     go_wp2_with fail
     refine wpAny_ready (rs:=[3]) (by kernel_rfl) (by simp) ?_
     refine AllReady.cons rfl (fun K hK=>?_) AllReady.nil
     go_simp
     go_wp2_with fail
     refine (clone_any XN _ (by omega)).mono ?_
     rintro e wn ⟨rfl,hbn⟩
     replace y0:=cell_keep y0 hbn
     replace y1:=cell_keep y1 hbn
     replace HO2:=hide (own_below HO2.out hbn)
     replace HB2:=hide (HB2.out.trans (hbn.mono hz2))
     replace hz2:=Nat.le_trans hz2 hbn.size
     clear hbn
     go_wp2_with fail
     refine wpAny_ready (rs:=[6]) (by kernel_rfl) (by simp) ?_
     refine AllReady.cons rfl (fun K hK=>?_) AllReady.nil
     go_simp
     go_wp2_with fail
     refine (clone_any XV _ (by omega)).mono ?_
     rintro e wn ⟨rfl,hbn⟩
     replace y0:=cell_keep y0 hbn
     replace y1:=cell_keep y1 hbn
     replace HO2:=hide (own_below HO2.out hbn)
     replace HB2:=hide (HB2.out.trans (hbn.mono hz2))
     replace hz2:=Nat.le_trans hz2 hbn.size
     clear hbn
     go_wp2_with fail
     refine wpAny_to (i:=7) (v:=.agg #[.string XN,.string XV]) (a':=?ax7z6q1) rfl (by kernel_rfl) (by kernel_rfl) (by kernel_rfl) (fun _ _ _ h=>h) (Or.inl ⟨by rfl,?yi⟩) ?ha ?_
     case yi=>intro w;go_simp
     case ha=>go_simp;try exact rfl
     refine wpAny_ready (rs:=[8]) (by kernel_rfl) (by simp) ?_
     refine AllReady.cons rfl (fun K hK=>?_) AllReady.nil
     go_simp
     go_wp2_with fail
     have hal:Below wn.heap.size wn (wn.alloc (.cells #[.string XN,.string XV] 117)):=(Below.refl _ _).alloc (Nat.le_refl _) _
     have HO3:=hide (own_below HO2.out hal)
     have HB3:=hide (HB2.out.alloc hz2 (.cells #[.string XN,.string XV] 117))
     clear hal
     refine wpAny_ready (rs:=[9]) (by kernel_rfl) (by simp) ?_
     refine AllReady.cons rfl (fun K hK=>?_) AllReady.nil
     rw[if_pos (by rfl)]
     refine wp_append_own _ (.tmp 12) (.tmp 20) 52 rfl wx.heap.size 117 i0 _ 2 32 Tryz.underlying52 hi hz0 hz1 hz2' rfl (by decide) (.slice q n c2) i (attrCells (at'.take i)) rfl HO3.out ⟨wn.heap.size,0,none⟩ 1 1 [.string XN,.string XV] rfl rfl (five_newA wn _ _) (attr_one _ _) (by unfold maxLen;omega) (by omega) (by simp;omega) ?_
     intro v' w5 hown5 hgr5 _
     obtain⟨bp,bm,bc,rfl⟩:=own_slice hown5
     have HB5:=hide (HB3.out.grown hgr5 (by simp;omega) (fun j hj=>(HO3.out.lt j hj).1))
     have HO5:Hid (w5.ownsRow wx.heap.size 117 2 (.slice bp bm bc) (i+1) (attrCells (at'.take (i+1)))):=hide (by
      rw[HTK.out,attrCells_app]
      have e:attrCells [(kn,kv)]=[.string XN,.string XV]:=by rw[HXN.out,HXV.out];rfl
      rw[e]
      exact hown5)
     clear hown5 hgr5 HO2 HB2 HO3 HB3 y0 y1
     refine hK _ _ ?_
     clear hK K
     refine wpAny_ready (rs:=[10]) (by kernel_rfl) (by simp) ?_
     refine AllReady.cons rfl (fun K hK=>?_) AllReady.nil
     go_simp
     go_wp2_with fail
     refine wpAny_done (by kernel_rfl) ?_ _
     go_wp2_with fail
     go_roundg (gk - 1)
     case measure=>omega
     case rel=>exact⟨i+1,by omega,by first | rfl | simp,⟨_,_,_,rfl⟩,HO5,HB5⟩
   ·go_simp
    go_wp2_with fail
    refine wpAny_ready (rs:=[2]) (by kernel_rfl) (by simp) ?_
    refine AllReady.cons rfl (fun K hK=>?_) AllReady.nil
    go_simp
    go_wp2_with fail
    refine wpAny_ready (rs:=[3]) (by kernel_rfl) (by simp) ?_
    refine AllReady.cons rfl (fun K hK=>?_) AllReady.nil
    go_simp
    go_wp2_with fail
    refine (clone_any XN _ (by omega)).mono ?_
    rintro e wn ⟨rfl,hbn⟩
    replace y0:=cell_keep y0 hbn
    replace y1:=cell_keep y1 hbn
    replace HO2:=hide (own_below HO2.out hbn)
    replace HB2:=hide (HB2.out.trans (hbn.mono hz2))
    replace hz2:=Nat.le_trans hz2 hbn.size
    clear hbn
    go_wp2_with fail
    refine wpAny_ready (rs:=[6]) (by kernel_rfl) (by simp) ?_
    refine AllReady.cons rfl (fun K hK=>?_) AllReady.nil
    go_simp
    go_wp2_with fail
    refine (clone_any XV _ (by omega)).mono ?_
    rintro e wn ⟨rfl,hbn⟩
    replace y0:=cell_keep y0 hbn
    replace y1:=cell_keep y1 hbn
    replace HO2:=hide (own_below HO2.out hbn)
    replace HB2:=hide (HB2.out.trans (hbn.mono hz2))
    replace hz2:=Nat.le_trans hz2 hbn.size
    clear hbn
    go_wp2_with fail
    refine wpAny_to (i:=7) (v:=.agg #[.string XN,.string XV]) (a':=?ax7z7q1) rfl (by kernel_rfl) (by kernel_rfl) (by kernel_rfl) (fun _ _ _ h=>h) (Or.inl ⟨by rfl,?yi⟩) ?ha ?_
    case yi=>intro w;go_simp
    case ha=>go_simp;try exact rfl
    refine wpAny_ready (rs:=[8]) (by kernel_rfl) (by simp) ?_
    refine AllReady.cons rfl (fun K hK=>?_) AllReady.nil
    go_simp
    go_wp2_with fail
    have hal:Below wn.heap.size wn (wn.alloc (.cells #[.string XN,.string XV] 117)):=(Below.refl _ _).alloc (Nat.le_refl _) _
    have HO3:=hide (own_below HO2.out hal)
    have HB3:=hide (HB2.out.alloc hz2 (.cells #[.string XN,.string XV] 117))
    clear hal
    refine wpAny_ready (rs:=[9]) (by kernel_rfl) (by simp) ?_
    refine AllReady.cons rfl (fun K hK=>?_) AllReady.nil
    rw[if_pos (by rfl)]
    refine wp_append_own _ (.tmp 12) (.tmp 20) 52 rfl wx.heap.size 117 i0 _ 2 32 Tryz.underlying52 hi hz0 hz1 hz2' rfl (by decide) (.slice q n c2) i (attrCells (at'.take i)) rfl HO3.out ⟨wn.heap.size,0,none⟩ 1 1 [.string XN,.string XV] rfl rfl (five_newA wn _ _) (attr_one _ _) (by unfold maxLen;omega) (by omega) (by simp;omega) ?_
    intro v' w5 hown5 hgr5 _
    obtain⟨bp,bm,bc,rfl⟩:=own_slice hown5
    have HB5:=hide (HB3.out.grown hgr5 (by simp;omega) (fun j hj=>(HO3.out.lt j hj).1))
    have HO5:Hid (w5.ownsRow wx.heap.size 117 2 (.slice bp bm bc) (i+1) (attrCells (at'.take (i+1)))):=hide (by
     rw[HTK.out,attrCells_app]
     have e:attrCells [(kn,kv)]=[.string XN,.string XV]:=by rw[HXN.out,HXV.out];rfl
     rw[e]
     exact hown5)
    clear hown5 hgr5 HO2 HB2 HO3 HB3 y0 y1
    refine hK _ _ ?_
    clear hK K
    refine wpAny_ready (rs:=[10]) (by kernel_rfl) (by simp) ?_
    refine AllReady.cons rfl (fun K hK=>?_) AllReady.nil
    go_simp
    go_wp2_with fail
    refine wpAny_done (by kernel_rfl) ?_ _
    go_wp2_with fail
    go_roundg (gk - 1)
    case measure=>omega
    case rel=>exact⟨i+1,by omega,by first | rfl | simp,⟨_,_,_,rfl⟩,HO5,HB5⟩
  ·have hd:decide ((i:Int) < (m:Int))=false:=decide_eq_false (by omega)
   have e:i=m:=by omega
   subst e
   have HE:Hid (wr.ownsRow wx.heap.size 117 2 (.slice q n c2) at'.length (attrCells at')):=hide (by
    have h1:=HO.out
    rw[List.take_of_length_le (by rw[HML.out];exact Nat.le_refl _)] at h1
    rw[<-HML.out]
    exact h1)
   clear HO
   go_wp2_with fail
   go_ret
   exact⟨q,n,c2,rfl,HE.out,HB.out⟩
theorem own_low {w:World}{b b':Nat}{e:TypeId}{size:Nat}{v:Value}{n:Nat}{xs:List Value}(h:w.ownsRow b e size v n xs)(hb:b'<=b):w.ownsRow b' e size v n xs:=by
 obtain⟨h1,h2 | ⟨g,cap,cur,h3,h4,h5⟩⟩:=h
 ·exact⟨h1,.inl h2⟩
 ·exact⟨h1,.inr ⟨g,cap,cur,h3,Nat.le_trans hb h4,h5⟩⟩
theorem clones_any (w:World) (p:Option Addr) (m c:Nat) (at':List (List UInt8 × List UInt8))(h:AttrRow w p m at')(hm:m<=1000000):Clones w w.heap.size (.slice p m c) at':=by
 intro wx hb hbw
 refine (clone_attrs w wx p m c at' h hm hbw).mono ?_
 rintro e w' ⟨ap,am,ac,rfl,ho,hb'⟩
 exact⟨ap,am,ac,rfl,own_low ho hb,hb'⟩
end Go.Proofs.YtkiofbikkhhdfaaGreatDoor.Dm
namespace Go.Proofs.YtkiofbikkhhdfaaGreatDoor
open Go.ChangeShapes Go.WideShapes Go.ChangeAt Go.RowKit
theorem row_own:ownKnob Tryz.prog.godebug=none:=by kernel_rfl
theorem row_laidOut:laidOutB Tryz.prog=true:=by kernel_rfl
def laidAll:List (String × DataW Unit):=[("math/bits.deBruijn32tab",Rows.laid_math_bits_deBruijn32tab),("math/bits.deBruijn64tab",Rows.laid_math_bits_deBruijn64tab),("internal/strconv.uint64pow10",Rows.laid_internal_strconv_uint64pow10),("unicode/utf8.acceptRanges",Rows.laid_unicode_utf8_acceptRanges),("strconv.ErrRange",Rows.laid_strconv_ErrRange),("strconv.ErrSyntax",Rows.laid_strconv_ErrSyntax),("unicode/utf8.first",Rows.laid_unicode_utf8_first)]
theorem gES:Tryz.prog.globalNamed "strconv.ErrSyntax"=some 1:=by kernel_rfl
theorem gESType:(Tryz.prog.globals[1]?).map (·.type)=some 98:=by kernel_rfl
theorem cellsE:Tryz.prog.cellsOf 212=1:=by kernel_rfl
theorem cellsS:Tryz.prog.cellsOf 9=1:=by kernel_rfl
theorem es_star : "*"++ "errors.errorString"= "*errors.errorString":=by decide
theorem es_row (u:TypeId)(h:Tryz.prog.typeName? 3 u=some "*errors.errorString"):u=210 :=
 typeName_ptr_named (nm:= "errors.errorString") (by rw[es_star];kernel_rfl) (by kernel_rfl) (by decide) u (by rw[es_star];exact h)
theorem all_met (os:Os) (args:Array Value):laidMetH Tryz.prog laidAll ((World.laidAll Tryz.prog os laidAll).forCall (fun _ _=>0) ⟨#[],args,[]⟩).memory:=by
 rw[MakeChecks.laidMetH_plain _ _ _ (by kernel_rfl)]
 exact laidMet_laidAll _ (by kernel_rfl) (by kernel_rfl)
theorem all_shaped (os:Os) (args:Array Value):((World.laidAll Tryz.prog os laidAll).forCall (fun _ _=>0) ⟨#[],args,[]⟩).Shaped Tryz.prog:=World.shaped_of_ZipB (by kernel_rfl) (by kernel_rfl)
theorem glob_of_laid {W:World}(h:laidMetH Tryz.prog laidAll W):To.Glob W:=by
 rw[MakeChecks.laidMetH_plain _ _ _ (by kernel_rfl)] at h
 have h5:=h.tail.tail.tail.tail.tail
 obtain⟨a0,s0,hv0,-,-,-⟩:=laid_sentinel h5 gES gESType Tryz.underlying98 es_row Tryz.underlying210 Tryz.underlying212 rfl rfl Tryz.underlying9 cellsE cellsS
 have h0:=World.var?_cell gES hv0 0
 exact⟨_,_,by simpa using h0⟩
theorem globM_of_shape {W:World}(h:W.ShapedOpen Tryz.prog):To.GlobM W :=
 cell_of_shapedOpen_int (g:=0) (t:=3) (zero:=#[.int .i64 0]) (k:=.i64) h (by decide +kernel) (by kernel_rfl) rfl (by kernel_rfl) (by kernel_rfl) Tryz.underlying3
theorem handed_laid_sized {H:Type}{enc:TypeId × Value->H}{a:Assume}{C:Checked}{os:Os}{f:FuncId}{fn:Func}{s:ChangeSpec}{conds:List PathCond}{apart fresh handsOn again:Bool}{X:World->Array Value->Prop}
  (hX:∀ (w w':World) (args:Array Value),w.heap=w'.heap->X w args->X w' args)
  (own:ownKnob C.prog.godebug=none) (started:os.Started) (noInit:C.prog.inits.idxOf? f=none)(hfn:C.prog.funcs[f]?=some fn)
  (witness:∃ (w:World) (tape:Tape) (i:Input),w.os=os/\(w.forCall tape i).Shaped C.prog/\i.vars=[]/\Input.okWide C.prog (w.forCall tape i) .any w.heap.size f i /\
   ((s.pre enc C.prog fn conds apart (w.forCall tape i).memory i.args/\X (w.forCall tape i).memory i.args)/\sizedMet enc C.prog fn (OpenSpec.ofChange s) apart (w.forCall tape i).memory i.args)/\a.holds C.prog (lone (Frame.enter C.prog f i.args .normal) [] (w.forCall tape i)))
  (contract:∀ (W:World) (base:Nat) (args:Array Value) (ds gs:List (DataW H)) (before:List MemPlace),
   (∀ (j:Nat) t v,fn.params[j]?=some t->args[j]?=some v->Value.okWide C.prog W .any base t v) ->
   DataW.Whole enc C.prog fn.params.toList s.vars apart W args.toList ds gs before ->
   X W args->W.ShapedOpen C.prog ->
   (DataW.weightsEach C.prog (fn.params.toList++s.plain.varTypes C.prog) (ds++gs)).all (·<=reachBytes)=true ->
   Calls C.prog f args W fun e W'=>∃ v,e=.returned v/\s.post enc C.prog fn apart fresh handsOn again W args v W') :
  ReturnsInHanded a C os f .any (fun w args=>(s.pre enc C.prog fn conds apart w args/\X w args)/\sizedMet enc C.prog fn (OpenSpec.ofChange s) apart w args) (s.post enc C.prog fn apart fresh handsOn again):=by
 refine returnsInHanded_of_calls own started noInit witness ?_
 intro w tape i _ hsh _ hok hpre hholds
 obtain⟨_,_,_,fn',hfn',_,_,_,_,hval⟩:=hok
 have e:fn'=fn:=Option.some.inj (hfn'.symm.trans hfn)
 subst e
 obtain⟨⟨⟨ds,gs,before,hw,hc⟩,hx⟩,hz⟩:=hpre
 have hw':=DataW.Whole.of_heap (w':=w.forCall tape i) (by rfl) hw
 refine (contract (w.forCall tape i) w.heap.size i.args ds gs before hval hw' (hX _ _ _ (by rfl) hx) hsh (hz.weights hw)).mono fun e W' ⟨v,he,hp⟩=>?_
 subst he
 exact ChangeSpec.post_blind hp
end Go.Proofs.YtkiofbikkhhdfaaGreatDoor
