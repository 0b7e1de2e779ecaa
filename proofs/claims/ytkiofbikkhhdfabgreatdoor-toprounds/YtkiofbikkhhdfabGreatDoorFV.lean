import Derived.Test.YtkiofbikkhhdfabGreatDoorK21
namespace Go.Proofs.YtkiofbikkhhdfabGreatDoor.Uf
open Go.RowKit
open Utf1
theorem right_other (s:ByteArray) (pos r:Nat) (w:World)(hr:r≠65533) :
  Calls Tryz.prog 67 #[.string s,.int .i64 pos,.int .i32 r] w fun e w'=>e=.returned (.bool true)/\w=w':=by
 have h1:((r:Int) != 65533)=true:=by rw[bne_iff_ne];omega
 go_enter Tryz.func67,Tryz.ntmps67
 go_wp2
 go_ret
 exact⟨rfl,rfl⟩
theorem right_fffd (s:ByteArray) (pos:Nat) (w:World)(hp:pos<=s.size) :
  Calls Tryz.prog 67 #[.string s,.int .i64 pos,.int .i32 65533] w fun e w'=>e=.returned (.bool (Lib.hasPrefix ((bl s).drop pos) [239,191,189]))/\w=w':=by
 have h1:((65533:Int) != 65533)=false:=by decide
 have ht:List.take (s.size - pos) (List.drop pos s.data.toList)=(bl s).drop pos:=by
  rw[List.take_of_length_le]
  rw[List.length_drop,bl_len]
  exact Nat.le_refl _
 have HT:=hide ht
 clear ht
 go_enter Tryz.func67,Tryz.ntmps67
 go_wp2_with (go_at_call 73;refine (Tryz.strings_HasPrefix _ _ _).mono ?_;rintro e w' ⟨rfl,rfl⟩)
 go_ret
 exact⟨ret_bool (by rw[HT.out]),rfl⟩
theorem right_any (s:ByteArray) (pos r wd:Nat) (w:World)(hlt:pos < s.size)(hd:dl ((bl s).drop pos)=(r,wd)) :
  Calls Tryz.prog 67 #[.string s,.int .i64 pos,.int .i32 r] w fun e w'=>e=.returned (.bool (decide (rt ((bl s).drop pos)≠0)))/\w=w':=by
 by_cases hr:r=65533
 ·subst hr
  rw[<-rt_hasPrefix _ (drop_ne s pos hlt) wd hd]
  exact right_fffd s pos w (by omega)
 ·have:decide (rt ((bl s).drop pos)≠0)=true:=by
   rw[decide_eq_true_eq,right_iff _ (drop_ne s pos hlt),hd]
   exact .inl hr
  rw[this]
  exact right_other s pos r w hr
set_option maxHeartbeats 1000000 in
theorem valid_any (s:ByteArray) (w:World) :
  Calls Tryz.prog 23 #[.string s] w fun e w'=>e=.returned (.bool (valid (bl s)))/\Below w.heap.size w w':=by
 go_enter Tryz.func23,Tryz.ntmps23
 go_wp2
 go_loopw [] (fun wr=>∃ (pos:Nat),pos<=s.size/\wr.heap[w.heap.size]?=some (.stringIter s pos)/\Below w.heap.size w wr/\Hid (valid ((bl s).drop pos)=valid (bl s))) (fun wr=>s.size - wr.iterPos w.heap.size)
 case atStart =>
  exact⟨0,Nat.zero_le _,World.iter_heap w s 0,(Below.refl _ w).alloc (Nat.le_refl _) _,hide rfl⟩
 case round =>
  obtain⟨pos,hp,hit,hbw,HV⟩:=hrel
  by_cases hlt:pos < s.size
  ·obtain⟨r,wd,hw1,hw4,hwl,hr,hdl,hnx⟩:=next_some Tryz.prog wr w.heap.size s pos hit hlt
   have HVS:=hide (valid_drop s pos r wd hlt hdl)
   have hit2:=Lib.iterAt_heap wr w.heap.size s pos (pos+wd) hit
   have hbw2:=Lib.below_iterAt hbw (k:=w.heap.size) (Nat.le_refl _) s (pos+wd)
   have hcall:=fun w=>right_any s pos r wd w hlt hdl
   have HD:=hide hdl
   clear hdl
   cases hb:decide (rt ((bl s).drop pos)≠0) with
   | true =>
    rw[hb] at hcall
    have HB:=hide hb
    clear hb
    go_wp2_with (go_at_call 67;refine (hcall _).mono ?_;rintro e w1 ⟨rfl,rfl⟩)
    go_roundw
    case rel =>
     refine⟨pos+wd,hwl,hit2,hbw2,hide ?_⟩
     rw[<-HV.out,HVS.out,HB.out,Bool.true_and]
    case measure =>
     simp only[World.iterPos,hit2,hit]
     omega
   | false =>
    rw[hb] at hcall
    have HB:=hide hb
    clear hb
    go_wp2_with (go_at_call 67;refine (hcall _).mono ?_;rintro e w1 ⟨rfl,rfl⟩)
    go_ret
    refine⟨ret_bool ?_,hbw2⟩
    rw[<-HV.out,HVS.out,HB.out,Bool.false_and]
  ·have hnx:∀ ty,(Instr.next (.pointer (some ⟨w.heap.size,0,none⟩)) true ty).run Tryz.prog wr=_:=fun ty=>Lib.run_next_end_at wr w.heap.size s pos ty hit hlt
   go_wp2
   go_ret
   refine⟨ret_bool ?_,hbw⟩
   rw[<-HV.out,drop_all s pos hlt,valid_nil]
end Go.Proofs.YtkiofbikkhhdfabGreatDoor.Uf
