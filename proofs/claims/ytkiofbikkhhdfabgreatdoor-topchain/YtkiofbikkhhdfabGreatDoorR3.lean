import Derived.Test.YtkiofbikkhhdfabGreatDoorK13
import Derived.Laws.Rows
import Derived.Deep.RegionHeld3
set_option maxRecDepth 100000
set_option maxHeartbeats 8000000
namespace Go.Proofs.YtkiofbikkhhdfabGreatDoor
open Go.RowKit
open Utf1 Pol8
abbrev capV (a b c:Int):Value:=.agg #[.int .i64 a,.int .i64 b,.int .i64 c]
theorem alloc3_new (w:World) (A B C:Obj):(((w.alloc A).alloc B).alloc C).heap[w.heap.size+1+1]?=some C:=by
 have h:=heap_alloc_new ((w.alloc A).alloc B) C
 have e:((w.alloc A).alloc B).heap.size=w.heap.size+1+1:=by simp
 rw[e] at h
 exact h
theorem pcaps_any (a0:Int) (v1 v2 v3 v4 v5:Value) (a6 a7 a8:Int) (w:World) :
  Calls Tryz.prog 32 #[pvalL a0 v1 v2 v3 v4 v5 a6 a7 a8] w fun e w'=>e=.returned (capV a6 a7 a8)/\Below w.heap.size w w':=by
 go_enter Tryz.func32,Tryz.ntmps32
 go_wp2_with fail
 refine bodyPost_ret (results_cell_row rfl _ _ (w.heap.size+1) 61 #[.int .i64 a6,.int .i64 a7,.int .i64 a8] (0,0) _ rfl ?_ Tryz.underlying61 rfl (by kernel_rfl)) rfl ?_
 ·exact heap_alloc2_new _ _ _
 ·exact⟨rfl,bel_alloc (bel_alloc (Below.refl _ _) _) _⟩
theorem pmost_any (a b c x y z:Int) (w:World) :
  Calls Tryz.prog 42 #[capV a b c,capV x y z] w fun e w'=>e=.returned (capV (min a x) (min b y) (min c z))/\Below w.heap.size w w':=by
 go_enter Tryz.func42,Tryz.ntmps42
 go_wp2_with fail
 refine bodyPost_ret (results_cell_row rfl _ _ (w.heap.size+1+1) 61 #[.int .i64 (min a x),.int .i64 (min b y),.int .i64 (min c z)] (0,0) _ rfl ?_ Tryz.underlying61 rfl (by kernel_rfl)) rfl ?_
 ·exact alloc3_new _ _ _ _
 ·exact⟨rfl,bel_alloc (bel_alloc (bel_alloc (Below.refl _ _) _) _) _⟩
theorem pleast_any (a b c x y z:Int) (w:World) :
  Calls Tryz.prog 74 #[capV a b c,capV x y z] w fun e w'=>e=.returned (capV (max a x) (max b y) (max c z))/\Below w.heap.size w w':=by
 go_enter Tryz.func74,Tryz.ntmps74
 go_wp2_with fail
 refine bodyPost_ret (results_cell_row rfl _ _ (w.heap.size+1+1) 61 #[.int .i64 (max a x),.int .i64 (max b y),.int .i64 (max c z)] (0,0) _ rfl ?_ Tryz.underlying61 rfl (by kernel_rfl)) rfl ?_
 ·exact alloc3_new _ _ _ _
 ·exact⟨rfl,bel_alloc (bel_alloc (bel_alloc (Below.refl _ _) _) _) _⟩
def Box3 (w:World) (A B C:Array Value) (wx:World):Prop:=wx.heap[w.heap.size]?=some (.cells A 61 (0,0))/\wx.heap[w.heap.size+1]?=some (.cells B 61 (0,0))/\wx.heap[w.heap.size+1+1]?=some (.cells C 61 (0,0))/\Below w.heap.size w wx
theorem Box3.keep {w wx wy:World}{A B C:Array Value}(h:Box3 w A B C wx)(hb:Below wx.heap.size wx wy):Box3 w A B C wy :=
 ⟨(hb.block _ (Array.getElem?_eq_some_iff.1 h.1).1).trans h.1,(hb.block _ (Array.getElem?_eq_some_iff.1 h.2.1).1).trans h.2.1,(hb.block _ (Array.getElem?_eq_some_iff.1 h.2.2.1).1).trans h.2.2.1,h.2.2.2.trans (hb.mono h.2.2.2.size)⟩
theorem Box3.new (w:World) (A B C:Array Value):Box3 w A B C (((w.alloc (.cells A 61)).alloc (.cells B 61)).alloc (.cells C 61)):=by
 refine⟨?_,?_,alloc3_new _ _ _ _,bel_alloc (bel_alloc (bel_alloc (Below.refl _ _) _) _) _⟩
 ·rw[Below.heap_alloc _ _ _ (by simp;omega),Below.heap_alloc _ _ _ (by simp)]
  exact new_block _ _ _
 ·rw[Below.heap_alloc _ _ _ (by simp)]
  exact heap_alloc2_new _ _ _
theorem pmayBe_any (a b c:Int) (w:World) :
  Calls Tryz.prog 33 #[capV a b c] w fun e w'=>e=.returned (.bool (decide ((1<=a/\a<=64)/\(1<=b/\b<=2000)/\(1<=c/\c<=16384))))/\Below w.heap.size w w':=by
 obtain⟨w1,hw1⟩:∃ w1,w1=((w.alloc (.cells #[.int .i64 a,.int .i64 b,.int .i64 c] 61)).alloc (.cells #[.int .i64 1,.int .i64 1,.int .i64 1] 61)).alloc (.cells #[.int .i64 64,.int .i64 2000,.int .i64 16384] 61):=⟨_,rfl⟩
 have HN:Hid (Box3 w #[.int .i64 a,.int .i64 b,.int .i64 c] #[.int .i64 1,.int .i64 1,.int .i64 1] #[.int .i64 64,.int .i64 2000,.int .i64 16384] w1):=hide (by rw[hw1];exact Box3.new _ _ _ _)
 have SK:Hid (∀ wx,Box3 w #[.int .i64 a,.int .i64 b,.int .i64 c] #[.int .i64 1,.int .i64 1,.int .i64 1] #[.int .i64 64,.int .i64 2000,.int .i64 16384] wx->wx.cell? ⟨w.heap.size,0,none⟩=some (.int .i64 a)/\wx.cell? ⟨w.heap.size,1,none⟩=some (.int .i64 b)/\wx.cell? ⟨w.heap.size,2,none⟩=some (.int .i64 c)/\wx.cell? ⟨w.heap.size+1,0,none⟩=some (.int .i64 1)/\wx.cell? ⟨w.heap.size+1,1,none⟩=some (.int .i64 1)/\wx.cell? ⟨w.heap.size+1,2,none⟩=some (.int .i64 1)/\wx.cell? ⟨w.heap.size+1+1,0,none⟩=some (.int .i64 64)/\wx.cell? ⟨w.heap.size+1+1,1,none⟩=some (.int .i64 2000)/\wx.cell? ⟨w.heap.size+1+1,2,none⟩=some (.int .i64 16384)/\Hid (Box3 w #[.int .i64 a,.int .i64 b,.int .i64 c] #[.int .i64 1,.int .i64 1,.int .i64 1] #[.int .i64 64,.int .i64 2000,.int .i64 16384] wx)):=hide (fun wx h=>⟨tag_cell h.1 0 _ rfl,tag_cell h.1 1 _ rfl,tag_cell h.1 2 _ rfl,tag_cell h.2.1 0 _ rfl,tag_cell h.2.1 1 _ rfl,tag_cell h.2.1 2 _ rfl,tag_cell h.2.2.1 0 _ rfl,tag_cell h.2.2.1 1 _ rfl,tag_cell h.2.2.1 2 _ rfl,hide h⟩)
 have SB:Hid (∀ wx,(wx.cell? ⟨w.heap.size,0,none⟩=some (.int .i64 a)/\wx.cell? ⟨w.heap.size,1,none⟩=some (.int .i64 b)/\wx.cell? ⟨w.heap.size,2,none⟩=some (.int .i64 c)/\wx.cell? ⟨w.heap.size+1,0,none⟩=some (.int .i64 1)/\wx.cell? ⟨w.heap.size+1,1,none⟩=some (.int .i64 1)/\wx.cell? ⟨w.heap.size+1,2,none⟩=some (.int .i64 1)/\wx.cell? ⟨w.heap.size+1+1,0,none⟩=some (.int .i64 64)/\wx.cell? ⟨w.heap.size+1+1,1,none⟩=some (.int .i64 2000)/\wx.cell? ⟨w.heap.size+1+1,2,none⟩=some (.int .i64 16384)/\Hid (Box3 w #[.int .i64 a,.int .i64 b,.int .i64 c] #[.int .i64 1,.int .i64 1,.int .i64 1] #[.int .i64 64,.int .i64 2000,.int .i64 16384] wx))->Box3 w #[.int .i64 a,.int .i64 b,.int .i64 c] #[.int .i64 1,.int .i64 1,.int .i64 1] #[.int .i64 64,.int .i64 2000,.int .i64 16384] wx):=hide (fun wx h=>h.2.2.2.2.2.2.2.2.2.out)
 have C1:Hid (∀ wx,Box3 w #[.int .i64 a,.int .i64 b,.int .i64 c] #[.int .i64 1,.int .i64 1,.int .i64 1] #[.int .i64 64,.int .i64 2000,.int .i64 16384] wx->Calls Tryz.prog 74 #[capV a b c,capV 1 1 1] wx fun e w'=>e=.returned (capV (max a 1) (max b 1) (max c 1))/\Box3 w #[.int .i64 a,.int .i64 b,.int .i64 c] #[.int .i64 1,.int .i64 1,.int .i64 1] #[.int .i64 64,.int .i64 2000,.int .i64 16384] w'):=hide (fun wx h=>(pleast_any a b c 1 1 1 wx).mono fun e w' ⟨h1,h2⟩=>⟨h1,h.keep h2⟩)
 have C2:Hid (∀ wx,Box3 w #[.int .i64 a,.int .i64 b,.int .i64 c] #[.int .i64 1,.int .i64 1,.int .i64 1] #[.int .i64 64,.int .i64 2000,.int .i64 16384] wx->Calls Tryz.prog 42 #[capV (max a 1) (max b 1) (max c 1),capV 64 2000 16384] wx fun e w'=>e=.returned (capV (min (max a 1) 64) (min (max b 1) 2000) (min (max c 1) 16384))/\Box3 w #[.int .i64 a,.int .i64 b,.int .i64 c] #[.int .i64 1,.int .i64 1,.int .i64 1] #[.int .i64 64,.int .i64 2000,.int .i64 16384] w'):=hide (fun wx h=>(pmost_any (max a 1) (max b 1) (max c 1) 64 2000 16384 wx).mono fun e w' ⟨h1,h2⟩=>⟨h1,h.keep h2⟩)
 obtain⟨R,hR⟩:∃ R,R=decide ((1<=a/\a<=64)/\(1<=b/\b<=2000)/\(1<=c/\c<=16384)):=⟨_,rfl⟩
 rw[<-hR]
 have HRR:Hid (R=((a==min (max a 1) 64) && ((b==min (max b 1) 2000) && (c==min (max c 1) 16384)))):=hide (by
  rw[hR]
  apply Bool.eq_iff_iff.2
  simp only[decide_eq_true_eq,Bool.and_eq_true,beq_iff_eq]
  omega)
 clear hR
 generalize max a 1=a1 at C1 C2 HRR
 generalize max b 1=b1 at C1 C2 HRR
 generalize max c 1=c1 at C1 C2 HRR
 generalize min a1 64=a2 at C2 HRR
 generalize min b1 2000=b2 at C2 HRR
 generalize min c1 16384=c2 at C2 HRR
 cases h1:(a==a2) <;> cases h2:(b==b2) <;> cases h3:(c==c2)
 all_goals
  rw[h1,h2,h3] at HRR
  go_enter Tryz.func33,Tryz.ntmps33
  go_upto_region 3 with fail
  rw[<-hw1]
  clear hw1
  go_region_held3 (fun wx=>wx.cell? ⟨w.heap.size,0,none⟩=some (.int .i64 a)/\wx.cell? ⟨w.heap.size,1,none⟩=some (.int .i64 b)/\wx.cell? ⟨w.heap.size,2,none⟩=some (.int .i64 c)/\wx.cell? ⟨w.heap.size+1,0,none⟩=some (.int .i64 1)/\wx.cell? ⟨w.heap.size+1,1,none⟩=some (.int .i64 1)/\wx.cell? ⟨w.heap.size+1,2,none⟩=some (.int .i64 1)/\wx.cell? ⟨w.heap.size+1+1,0,none⟩=some (.int .i64 64)/\wx.cell? ⟨w.heap.size+1+1,1,none⟩=some (.int .i64 2000)/\wx.cell? ⟨w.heap.size+1+1,2,none⟩=some (.int .i64 16384)/\Hid (Box3 w #[.int .i64 a,.int .i64 b,.int .i64 c] #[.int .i64 1,.int .i64 1,.int .i64 1] #[.int .i64 64,.int .i64 2000,.int .i64 16384] wx))
   (first | exact SK.out _ (HN.out.keep ((Below.refl _ _).drew)) | exact SK.out _ (by assumption))
   (first
    | (go_at_call 74;refine (C1.out _ (SB.out _ (by assumption))).mono ?_;rintro e w6 ⟨rfl,h6⟩)
    | (go_at_call 42;refine (C2.out _ (SB.out _ (by assumption))).mono ?_;rintro e w6 ⟨rfl,h6⟩))
  all_goals
   have H7:=hide (SB.out _ (by assumption))
   go_wp2_with fail
   go_ret
   rw[HRR.out]
   exact⟨rfl,H7.out.2.2.2⟩
end Go.Proofs.YtkiofbikkhhdfabGreatDoor
