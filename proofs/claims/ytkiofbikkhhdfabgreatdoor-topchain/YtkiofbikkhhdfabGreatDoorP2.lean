import Derived.Test.YtkiofbikkhhdfabGreatDoorK04
import Derived.Test.YtkiofbikkhhdfabGreatDoorK03
import Derived.Lib.ConvBytes
import Derived.Laws.Closers25b
import Derived.Lib.ParseIntBMem
import Derived.BigGuard
set_option maxRecDepth 100000
set_option maxHeartbeats 32000000
namespace Go.Proofs.YtkiofbikkhhdfabGreatDoor.To
open Go.RowKit
open Utf1
def parsed:Option Nat->Value
 | some n=>.tuple #[.int .u64 (n:Int),.nilIface]
 | none=>.tuple #[.int .u64 0,.iface 176 (.int .i64 2)]
theorem or_table:∀ c:Fin 256,(65<=c.val/\c.val<=90->bits .or .u8 (c.val:Int) 32=(c.val:Int)+32)/\(97<=c.val/\c.val<=122->bits .or .u8 (c.val:Int) 32=(c.val:Int))/\(c.val < 65\/(90 < c.val/\c.val < 97)\/122 < c.val->bits .or .u8 (c.val:Int) 32 < 97\/122 < bits .or .u8 (c.val:Int) 32):=by decide +kernel
theorem or_at (c:UInt8):(65<=c.toNat/\c.toNat<=90->bits .or .u8 (c.toNat:Int) 32=(c.toNat:Int)+32)/\(97<=c.toNat/\c.toNat<=122->bits .or .u8 (c.toNat:Int) 32=(c.toNat:Int))/\(c.toNat < 65\/(90 < c.toNat/\c.toNat < 97)\/122 < c.toNat->bits .or .u8 (c.toNat:Int) 32 < 97\/122 < bits .or .u8 (c.toNat:Int) 32):=or_table ⟨c.toNat,c.toNat_lt⟩
theorem dig_cases (c:UInt8):(48<=c.toNat/\c.toNat<=57/\dig c.toNat=c.toNat - 48)\/(¬ (48<=c.toNat/\c.toNat<=57)/\∃ v:Int,bits .or .u8 (c.toNat:Int) 32=v/\0<=v/\v<=255/\((97<=v/\v<=102/\(dig c.toNat:Int)=v - 87)\/(103<=v/\v<=122/\dig c.toNat=99)\/((v < 97\/122 < v)/\dig c.toNat=99))):=by
 obtain⟨h1,h2,h3⟩:=or_at c
 have lo:=bits_lo_u8 .or (c.toNat:Int) 32
 have hi:=bits_hi_u8 .or (c.toNat:Int) 32
 by_cases hd:48<=c.toNat/\c.toNat<=57
 ·left
  refine⟨hd.1,hd.2,?_⟩
  unfold dig
  rw[if_pos hd]
 ·right
  refine⟨hd,_,rfl,lo,hi,?_⟩
  by_cases hu:65<=c.toNat/\c.toNat<=90
  ·have e:=h1 hu
   rw[e]
   by_cases h6:c.toNat<=70
   ·left
    refine⟨by omega,by omega,?_⟩
    unfold dig
    rw[if_neg hd,if_neg (by omega),if_pos (by omega)]
    omega
   ·right;left
    refine⟨by omega,by omega,?_⟩
    unfold dig
    rw[if_neg hd,if_neg (by omega),if_neg (by omega)]
  ·by_cases hl:97<=c.toNat/\c.toNat<=122
   ·have e:=h2 hl
    rw[e]
    by_cases h6:c.toNat<=102
    ·left
     refine⟨by omega,by omega,?_⟩
     unfold dig
     rw[if_neg hd,if_pos (by omega)]
     omega
    ·right;left
     refine⟨by omega,by omega,?_⟩
     unfold dig
     rw[if_neg hd,if_neg (by omega),if_neg (by omega)]
   ·right;right
    refine⟨h3 (by omega),?_⟩
    unfold dig
    rw[if_neg hd,if_neg (by omega),if_neg (by omega)]
theorem num_cons (b acc:Nat) (c:UInt8) (t:List UInt8):num b acc (c :: t)=if dig c.toNat < b then num b (acc*b+dig c.toNat) t else none:=rfl
theorem parse16 (t:ByteArray)(hne:t.size≠0)(hmax:t.size<=7) (w:World) :
  Calls Tryz.prog 143 #[.string t,.int .i64 16,.int .i64 32] w fun e w'=>e=.returned (parsed (num 16 0 (bl t)))/\Below w.heap.size w w':=by
 have hemp:t.toList.isEmpty=false:=by
  rw[<-decide_eq_emptyBytes]
  exact decide_eq_false (fun h=>hne (by rw[h];rfl))
 have hcv:=Lib.run_convert_string_bytes (P:=Tryz.prog) w 9 25 5 t (u:=.string) Tryz.underlying9 Tryz.underlying25 Tryz.underlying5
 have hB:∀ j,j < t.size->(Lib.bytesWorld w 5 t).cell? ⟨w.heap.size,j,none⟩=some (.int .u8 (t.data.toList.getD j 0).toNat):=fun j hj=>Lib.bytesWorld_cell w 5 t j hj
 have hbw:Below w.heap.size w (Lib.bytesWorld w 5 t):=Lib.bytesWorld_below _ _ _
 obtain⟨W1,hW1⟩:∃ W1,W1=Lib.bytesWorld w 5 t:=⟨_,rfl⟩
 rw[<-hW1] at hcv hB hbw
 clear hW1
 obtain⟨bs,hL⟩:∃ bs,bs=bl t:=⟨_,rfl⟩
 have hLn:bs.length=t.size:=by rw[hL,bl_len]
 rw[show t.data.toList=bl t from rfl,<-hL] at hB
 rw[<-hL]
 clear hL
 have hmv:IntKind.u64.wrap (IntKind.u64.wrap 4294967296 - 1)=4294967295:=by
  rw[IntKind.wrap_u64,IntKind.wrap_u64]
  decide
 go_enter Tryz.func143,Tryz.ntmps143
 go_wp2
 go_loop [12,13,101] (fun vu vn vi=>∃ (k acc:Nat) (a:Int),vu=.bool false/\vn=.int .u64 a/\vi=.int .i64 k/\k<=t.size/\Hid (a=(acc:Int)/\acc < 16 ^ k/\num 16 0 bs=num 16 acc (bs.drop k)))
  (fun _ _ vi=>t.size - (intOf vi).toNat)
 case atStart=>exact⟨0,0,0,rfl,rfl,rfl,by omega,rfl,by decide,rfl⟩
 case round =>
  obtain⟨k,acc,a,rfl,rfl,rfl,hk,hh⟩:=hrel
  obtain⟨ha,hacc,hdec⟩:=hh.out
  clear hh
  by_cases hkn:k < t.size
  ·have hpow:16 ^ k<=16777216:=by
    have:16 ^ k<=16 ^ 6:=Nat.pow_le_pow_right (by decide) (by omega)
    omega
   have a0:0<=a:=by omega
   have a1:a<=16777215:=by omega
   have hc:=hB k hkn
   have hdrop:bs.drop k=bs[k]'(by omega) :: bs.drop (k+1):=List.drop_eq_getElem_cons (by omega)
   have hget:bs.getD k 0=bs[k]'(by omega):=by simp[List.getD,List.getElem?_eq_getElem (show k < bs.length by omega)]
   rw[hdrop,num_cons] at hdec
   rw[hget] at hc
   generalize bs[k]'(by omega)=c at hc hdec
   have hc256:c.toNat < 256:=c.toNat_lt
   have hcs:=dig_cases c
   have hps:16 ^ (k+1)=16 ^ k*16:=Nat.pow_succ ..
   clear hB hdrop hget
   obtain⟨z,hz⟩:∃ z:Int,z=(c.toNat:Int):=⟨_,rfl⟩
   rw[<-hz] at hc
   have hlow:=fun w=>Tryz.internal_strconv_lower z w
   rcases hcs with⟨hd0,hd1,hdg⟩ | ⟨hnd,v,hv,v0,v255,hcs⟩
   ·rw[if_pos (by omega)] at hdec
    have z0:48<=z:=by omega
    have z1:z<=57:=by omega
    have HN:Hid (a*16+(z - 48)=((acc*16+dig c.toNat:Nat):Int)/\acc*16+dig c.toNat < 16 ^ (k+1)/\num 16 0 bs=num 16 (acc*16+dig c.toNat) (bs.drop (k+1))):=hide ⟨by omega,by omega,hdec⟩
    clear hacc hdec ha hps hdg hz hd0 hd1 hc256 hlow
    go_wp2
    refine⟨⟨k+1,acc*16+dig c.toNat,a*16+(z - 48),rfl,(by first | rfl | (congr 1;omega)),(by first | rfl | (congr 1;omega)),by omega,HN⟩,by simp[intOf];omega⟩
   ·rw[<-hz] at hv
    rw[hv] at hlow
    have zl:0<=z:=by omega
    have zh:z<=255:=by omega
    have hnz:¬ (48<=z/\z<=57):=by omega
    rcases hcs with⟨hv0,hv1,hdg⟩ | hcs
    ·rw[if_pos (by omega)] at hdec
     have HN:Hid (a*16+(v - 97+10)=((acc*16+dig c.toNat:Nat):Int)/\acc*16+dig c.toNat < 16 ^ (k+1)/\num 16 0 bs=num 16 (acc*16+dig c.toNat) (bs.drop (k+1))):=hide ⟨by omega,by omega,hdec⟩
     have n95:z≠95:=by
      intro e
      have e2:c.toNat=95:=by omega
      rw[e2] at hdg
      have:dig 95=99:=by decide
      omega
     have h95:(z==95)=false:=beq_eq_false_iff_ne.2 n95
     clear hacc hdec ha hps hdg hz hc256 hnd hv n95
     by_cases h48:48<=z
     ·have h57:¬ z<=57:=by omega
      clear hnz
      go_wp2_with (go_at_call 151;refine (hlow _).mono ?_;rintro e w' ⟨rfl,rfl⟩)
      all_goals refine⟨⟨k+1,acc*16+dig c.toNat,a*16+(v - 97+10),rfl,(by first | rfl | (congr 1;omega)),(by first | rfl | (congr 1;omega)),by omega,HN⟩,by simp[intOf];omega⟩
     ·clear hnz
      go_wp2_with (go_at_call 151;refine (hlow _).mono ?_;rintro e w' ⟨rfl,rfl⟩)
      all_goals refine⟨⟨k+1,acc*16+dig c.toNat,a*16+(v - 97+10),rfl,(by first | rfl | (congr 1;omega)),(by first | rfl | (congr 1;omega)),by omega,HN⟩,by simp[intOf];omega⟩
    ·have hnd2:¬ dig c.toNat < 16:=by omega
     have hcv2:(103<=v/\v<=122)\/v < 97\/122 < v:=by omega
     rw[if_neg hnd2] at hdec
     have HD:=hide hdec
     clear hacc hdec ha hps hz hc256 hnd hv hcs hnd2
     by_cases n95:z=95
     ·subst n95
      clear hnz
      go_wp2_with (go_at_call 151;refine (hlow _).mono ?_;rintro e w' ⟨rfl,rfl⟩)
      all_goals go_ret2
      all_goals exact⟨by rw[HD.out];rfl,hbw⟩
     have h95:(z==95)=false:=beq_eq_false_iff_ne.2 n95
     clear n95
     by_cases h48:48<=z
     ·have h57:¬ z<=57:=by omega
      clear hnz
      go_wp2_with (go_at_call 151;refine (hlow _).mono ?_;rintro e w' ⟨rfl,rfl⟩)
      all_goals go_ret2
      all_goals exact⟨by rw[HD.out];rfl,hbw⟩
     ·clear hnz
      go_wp2_with (go_at_call 151;refine (hlow _).mono ?_;rintro e w' ⟨rfl,rfl⟩)
      all_goals go_ret2
      all_goals exact⟨by rw[HD.out];rfl,hbw⟩
  ·have hkk:k=t.size:=by omega
   subst hkk
   rw[show bs.drop t.size=[] from List.drop_eq_nil_of_le (by omega)] at hdec
   have HD:=hide hdec
   subst ha
   clear hdec hacc
   go_wp2
   go_ret2
   refine⟨?_,hbw⟩
   rw[HD.out]
   rfl
theorem parse10 (t:ByteArray)(hne:t.size≠0)(hmax:t.size<=7) (w:World) :
  Calls Tryz.prog 143 #[.string t,.int .i64 10,.int .i64 32] w fun e w'=>e=.returned (parsed (num 10 0 (bl t)))/\Below w.heap.size w w':=by
 have hemp:t.toList.isEmpty=false:=by
  rw[<-decide_eq_emptyBytes]
  exact decide_eq_false (fun h=>hne (by rw[h];rfl))
 have hcv:=Lib.run_convert_string_bytes (P:=Tryz.prog) w 9 25 5 t (u:=.string) Tryz.underlying9 Tryz.underlying25 Tryz.underlying5
 have hB:∀ j,j < t.size->(Lib.bytesWorld w 5 t).cell? ⟨w.heap.size,j,none⟩=some (.int .u8 (t.data.toList.getD j 0).toNat):=fun j hj=>Lib.bytesWorld_cell w 5 t j hj
 have hbw:Below w.heap.size w (Lib.bytesWorld w 5 t):=Lib.bytesWorld_below _ _ _
 obtain⟨W1,hW1⟩:∃ W1,W1=Lib.bytesWorld w 5 t:=⟨_,rfl⟩
 rw[<-hW1] at hcv hB hbw
 clear hW1
 obtain⟨bs,hL⟩:∃ bs,bs=bl t:=⟨_,rfl⟩
 have hLn:bs.length=t.size:=by rw[hL,bl_len]
 rw[show t.data.toList=bl t from rfl,<-hL] at hB
 rw[<-hL]
 clear hL
 have hmv:IntKind.u64.wrap (IntKind.u64.wrap 4294967296 - 1)=4294967295:=by
  rw[IntKind.wrap_u64,IntKind.wrap_u64]
  decide
 go_enter Tryz.func143,Tryz.ntmps143
 go_wp2
 go_loop [12,13,101] (fun vu vn vi=>∃ (k acc:Nat) (a:Int),vu=.bool false/\vn=.int .u64 a/\vi=.int .i64 k/\k<=t.size/\Hid (a=(acc:Int)/\acc < 10 ^ k/\num 10 0 bs=num 10 acc (bs.drop k)))
  (fun _ _ vi=>t.size - (intOf vi).toNat)
 case atStart=>exact⟨0,0,0,rfl,rfl,rfl,by omega,rfl,by decide,rfl⟩
 case round =>
  obtain⟨k,acc,a,rfl,rfl,rfl,hk,hh⟩:=hrel
  obtain⟨ha,hacc,hdec⟩:=hh.out
  clear hh
  by_cases hkn:k < t.size
  ·have hpow:10 ^ k<=1000000:=by
    have:10 ^ k<=10 ^ 6:=Nat.pow_le_pow_right (by decide) (by omega)
    omega
   have a0:0<=a:=by omega
   have a1:a<=999999:=by omega
   have hc:=hB k hkn
   have hdrop:bs.drop k=bs[k]'(by omega) :: bs.drop (k+1):=List.drop_eq_getElem_cons (by omega)
   have hget:bs.getD k 0=bs[k]'(by omega):=by simp[List.getD,List.getElem?_eq_getElem (show k < bs.length by omega)]
   rw[hdrop,num_cons] at hdec
   rw[hget] at hc
   generalize bs[k]'(by omega)=c at hc hdec
   have hc256:c.toNat < 256:=c.toNat_lt
   have hcs:=dig_cases c
   have hps:10 ^ (k+1)=10 ^ k*10:=Nat.pow_succ ..
   clear hB hdrop hget
   obtain⟨z,hz⟩:∃ z:Int,z=(c.toNat:Int):=⟨_,rfl⟩
   rw[<-hz] at hc
   have hlow:=fun w=>Tryz.internal_strconv_lower z w
   rcases hcs with⟨hd0,hd1,hdg⟩ | ⟨hnd,v,hv,v0,v255,hcs⟩
   ·rw[if_pos (by omega)] at hdec
    have z0:48<=z:=by omega
    have z1:z<=57:=by omega
    have HN:Hid (a*10+(z - 48)=((acc*10+dig c.toNat:Nat):Int)/\acc*10+dig c.toNat < 10 ^ (k+1)/\num 10 0 bs=num 10 (acc*10+dig c.toNat) (bs.drop (k+1))):=hide ⟨by omega,by omega,hdec⟩
    clear hacc hdec ha hps hdg hz hd0 hd1 hc256 hlow
    go_wp2
    refine⟨⟨k+1,acc*10+dig c.toNat,a*10+(z - 48),rfl,(by first | rfl | (congr 1;omega)),(by first | rfl | (congr 1;omega)),by omega,HN⟩,by simp[intOf];omega⟩
   ·rw[<-hz] at hv
    rw[hv] at hlow
    have zl:0<=z:=by omega
    have zh:z<=255:=by omega
    have hnz:¬ (48<=z/\z<=57):=by omega
    ·have hnd2:¬ dig c.toNat < 10:=by omega
     rw[if_neg hnd2] at hdec
     have HD:=hide hdec
     clear hacc hdec ha hps hz hc256 hnd hv hcs hnd2
     by_cases n95:z=95
     ·subst n95
      clear hnz
      go_wp2_with (go_at_call 151;refine (hlow _).mono ?_;rintro e w' ⟨rfl,rfl⟩)
      all_goals go_ret2
      all_goals exact⟨by rw[HD.out];rfl,hbw⟩
     have h95:(z==95)=false:=beq_eq_false_iff_ne.2 n95
     clear n95
     by_cases h48:48<=z
     ·have h57:¬ z<=57:=by omega
      clear hnz
      go_wp2_with (go_at_call 151;refine (hlow _).mono ?_;rintro e w' ⟨rfl,rfl⟩)
      all_goals go_ret2
      all_goals exact⟨by rw[HD.out];rfl,hbw⟩
     ·clear hnz
      go_wp2_with (go_at_call 151;refine (hlow _).mono ?_;rintro e w' ⟨rfl,rfl⟩)
      all_goals go_ret2
      all_goals exact⟨by rw[HD.out];rfl,hbw⟩
  ·have hkk:k=t.size:=by omega
   subst hkk
   rw[show bs.drop t.size=[] from List.drop_eq_nil_of_le (by omega)] at hdec
   have HD:=hide hdec
   subst ha
   clear hdec hacc
   go_wp2
   go_ret2
   refine⟨?_,hbw⟩
   rw[HD.out]
   rfl
end Go.Proofs.YtkiofbikkhhdfabGreatDoor.To
