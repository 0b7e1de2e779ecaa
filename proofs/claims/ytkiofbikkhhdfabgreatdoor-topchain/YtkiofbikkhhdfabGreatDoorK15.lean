import Derived.Test.YtkiofbikkhhdfabGreatDoorMath
import Derived.Test.YtkiofbikkhhdfabGreatDoorShelf
import Derived.Test.YtkiofbikkhhdfabGreatDoorK01
import Derived.WalkKit
import Derived.WalkSpells
import Derived.WalkLawsBesides
import Derived.BigCall
import Derived.Laws.IdiomStrings
import Derived.Lib.AppendStr
import Derived.Deep.LoopGhost
import Derived.WalkMore
import Derived.Deep.CutBlock
set_option maxHeartbeats 1000000
namespace Utf1
def blk (c:UInt8):Bool:=decide (c.toNat<=32)
def kept (c:UInt8):Bool:=decide (c≠9/\c≠10/\c≠13)
def dropB (l:List UInt8):List UInt8:=l.dropWhile blk
def dropE (l:List UInt8):List UInt8:=(dropB l.reverse).reverse
def trim (l:List UInt8):List UInt8:=dropE (dropB l)
def bare (l:List UInt8):List UInt8:=(trim l).filter kept
theorem dropB_len (l:List UInt8):(dropB l).length<=l.length:=by
 induction l with
 | nil=>exact Nat.le_refl _
 | cons c t ih =>
  unfold dropB at *
  by_cases h:blk c=true
  ·rw[List.dropWhile_cons_of_pos h,List.length_cons]
   omega
  ·rw[List.dropWhile_cons_of_neg h]
   exact Nat.le_refl _
theorem bare_len (l:List UInt8):(bare l).length<=l.length:=by
 have h1:(bare l).length<=(trim l).length:=List.length_filter_le _ _
 have h2:(trim l).length<=(dropB l).length:=by
  unfold trim dropE
  rw[List.length_reverse]
  have:=dropB_len (dropB l).reverse
  rwa [List.length_reverse] at this
 have:=dropB_len l
 omega
theorem dropB_step {l:List UInt8}{p:Nat}{c:UInt8}(h:l[p]?=some c)(hc:blk c=true):dropB (l.drop p)=dropB (l.drop (p+1)):=by
 obtain⟨hp,e⟩:=List.getElem?_eq_some_iff.1 h
 rw[List.drop_eq_getElem_cons hp,e]
 unfold dropB
 rw[List.dropWhile_cons_of_pos hc]
theorem dropB_stop {l:List UInt8}{p:Nat}{c:UInt8}(h:l[p]?=some c)(hc:blk c=false):dropB (l.drop p)=l.drop p:=by
 obtain⟨hp,e⟩:=List.getElem?_eq_some_iff.1 h
 rw[List.drop_eq_getElem_cons hp,e]
 unfold dropB
 rw[List.dropWhile_cons_of_neg (by simp[hc])]
theorem dropE_snoc (x:List UInt8) (c:UInt8):dropE (x++[c])=if blk c=true then dropE x else x++[c]:=by
 unfold dropE dropB
 rw[List.reverse_append,List.reverse_singleton,List.singleton_append]
 by_cases h:blk c=true
 ·rw[if_pos h,List.dropWhile_cons_of_pos h]
 ·rw[if_neg h,List.dropWhile_cons_of_neg h]
  simp
theorem seg_snoc {l:List UInt8}{p q:Nat}{c:UInt8}(hpq:p<=q)(h:l[q]?=some c):(l.take (q+1)).drop p=(l.take q).drop p++[c]:=by
 obtain⟨hq,e⟩:=List.getElem?_eq_some_iff.1 h
 rw[List.take_succ_eq_append_getElem hq,e,List.drop_append_of_le_length (by rw[List.length_take];omega)]
theorem dropE_step {l:List UInt8}{p q:Nat}{c:UInt8}(hpq:p<=q)(h:l[q]?=some c)(hc:blk c=true):dropE ((l.take (q+1)).drop p)=dropE ((l.take q).drop p):=by
 rw[seg_snoc hpq h,dropE_snoc,if_pos hc]
theorem dropE_stop {l:List UInt8}{p q:Nat}{c:UInt8}(hpq:p<=q)(h:l[q]?=some c)(hc:blk c=false):dropE ((l.take (q+1)).drop p)=(l.take (q+1)).drop p:=by
 rw[seg_snoc hpq h,dropE_snoc,if_neg (by simp[hc])]
theorem seg_cons {l:List UInt8}{j q:Nat}{c:UInt8}(hj:j < q)(h:l[j]?=some c):(l.take q).drop j=c :: (l.take q).drop (j+1):=by
 obtain⟨hl,e⟩:=List.getElem?_eq_some_iff.1 h
 have hlt:j < (l.take q).length:=by rw[List.length_take];omega
 rw[List.drop_eq_getElem_cons hlt,List.getElem_take,e]
theorem filter_kept_cons (c:UInt8) (t:List UInt8):(c :: t).filter kept=if kept c=true then c :: t.filter kept else t.filter kept:=by
 by_cases h:kept c=true
 ·rw[if_pos h,List.filter_cons_of_pos h]
 ·rw[if_neg h,List.filter_cons_of_neg h]
theorem trim_seg {l:List UInt8}{p q:Nat}(h1:dropB l=l.drop p)(h2:dropE (l.drop p)=(l.take q).drop p):trim l=(l.take q).drop p:=by
 unfold trim
 rw[h1,h2]
def letB (c:UInt8):Bool:=decide (97<=c.toNat/\c.toNat<=122)
def schB (c:UInt8):Bool:=letB c || decide ((48<=c.toNat/\c.toNat<=57)\/c=43\/c=45\/c=46)
def schT:List UInt8->Option (List UInt8)
 | []=>none
 | c :: t=>if c=58 then some [] else if schB c=true then (schT t).map (c :: ·) else none
def schA:List UInt8->Option (List UInt8)
 | []=>none
 | c :: t=>if letB c=true then (schT t).map (c :: ·) else none
theorem schA_cons (c:UInt8) (t:List UInt8):schA (c :: t)=if letB c=true then (schT t).map (c :: ·) else none:=rfl
def scheme (l:List UInt8):Option (List UInt8):=schA (lower (bare l))
def badB (c:UInt8):Bool:=decide (c.toNat < 32\/c=92\/c=127)
def plainOk (b:List UInt8):Bool:=!(decide (b.take 2=[47,47])) && b.all (fun c=>!badB c)
def allowed (l:List UInt8) (ss:List (List UInt8)):Bool :=
 match scheme l with
 | some x=>decide (x∈ss)
 | none=>plainOk (bare l)
def schP (b:List UInt8) (p:Nat):Option (List UInt8):=if p=0 then schA b else (schT (b.drop p)).map (b.take p++·)
theorem schP_zero (b:List UInt8):schP b 0=schA b:=rfl
theorem map_app (o:Option (List UInt8)) (a:List UInt8) (c:UInt8):(o.map (c :: ·)).map (a++·)=o.map ((a++[c])++·):=by
 cases o <;> simp
theorem schP_go {b:List UInt8}{p:Nat}{c:UInt8}(h:b[p]?=some c)(hc:c≠58)(ho:letB c=true\/(p≠0/\schB c=true)):schP b p=schP b (p+1):=by
 obtain⟨hp,e⟩:=List.getElem?_eq_some_iff.1 h
 have e1:b.drop p=c :: b.drop (p+1):=by rw[List.drop_eq_getElem_cons hp,e]
 have e2:b.take (p+1)=b.take p++[c]:=by rw[List.take_succ_eq_append_getElem hp,e]
 have hs:schB c=true:=by
  rcases ho with h | h
  ·unfold schB;rw[h];rfl
  ·exact h.2
 unfold schP
 rw[if_neg (Nat.succ_ne_zero p),e2]
 by_cases h0:p=0
 ·subst h0
  have hl:letB c=true:=by
   rcases ho with h | h
   ·exact h
   ·exact absurd rfl h.1
  rw[if_pos rfl]
  have e3:b=c :: b.drop 1:=by simpa using e1
  rw[show schA b=schA (c :: b.drop 1) from congrArg schA e3,schA_cons,if_pos hl]
  cases schT (b.drop 1) <;> simp
 ·rw[if_neg h0,e1,schT,if_neg hc,if_pos hs,map_app]
theorem schP_hit {b:List UInt8}{p:Nat}(h:b[p]?=some 58)(h0:p≠0):schP b p=some (b.take p):=by
 obtain⟨hp,e⟩:=List.getElem?_eq_some_iff.1 h
 have e1:b.drop p=58 :: b.drop (p+1):=by rw[List.drop_eq_getElem_cons hp,e]
 unfold schP
 rw[if_neg h0,e1,schT,if_pos rfl]
 simp
theorem schP_miss {b:List UInt8}{p:Nat}{c:UInt8}(h:b[p]?=some c)(hl:letB c=false)(ho:p=0\/(c≠58/\schB c=false)):schP b p=none:=by
 obtain⟨hp,e⟩:=List.getElem?_eq_some_iff.1 h
 have e1:b.drop p=c :: b.drop (p+1):=by rw[List.drop_eq_getElem_cons hp,e]
 unfold schP
 by_cases h0:p=0
 ·subst h0
  rw[if_pos rfl]
  have e3:b=c :: b.drop 1:=by simpa using e1
  rw[show schA b=schA (c :: b.drop 1) from congrArg schA e3,schA_cons,if_neg (by simp[hl])]
 ·rw[if_neg h0,e1,schT]
  rcases ho with h | h
  ·exact absurd h h0
  ·rw[if_neg h.1,if_neg (by simp[h.2])]
   rfl
theorem schP_end {b:List UInt8}{p:Nat}(h:b.length<=p):schP b p=none:=by
 unfold schP
 by_cases h0:p=0
 ·subst h0
  have:b=[]:=List.length_eq_zero_iff.1 (by omega)
  subst this
  rfl
 ·rw[if_neg h0,List.drop_eq_nil_iff.2 h]
  rfl
theorem letB_yes {c:UInt8}(h:97<=c.toNat)(h2:c.toNat<=122):letB c=true:=decide_eq_true ⟨h,h2⟩
theorem letB_no {c:UInt8}(h:c.toNat < 97\/122 < c.toNat):letB c=false:=decide_eq_false (by omega)
theorem ne_of_toNat {c d:UInt8}(h:c.toNat≠d.toNat):c≠d:=fun e=>h (by rw[e])
theorem schB_yes {c:UInt8}(h:(48<=c.toNat/\c.toNat<=57)\/c.toNat=43\/c.toNat=45\/c.toNat=46):schB c=true:=by
 unfold schB
 rw[decide_eq_true (p:=(48<=c.toNat/\c.toNat<=57)\/c=43\/c=45\/c=46)]
 ·simp
 ·rcases h with h | h | h | h
  ·exact .inl h
  ·exact .inr (.inl (UInt8.toNat_inj.1 h))
  ·exact .inr (.inr (.inl (UInt8.toNat_inj.1 h)))
  ·exact .inr (.inr (.inr (UInt8.toNat_inj.1 h)))
theorem schB_no {c:UInt8}(hl:c.toNat < 97\/122 < c.toNat)(hd:c.toNat < 48\/57 < c.toNat)(h:c.toNat≠43/\c.toNat≠45/\c.toNat≠46):schB c=false:=by
 unfold schB
 rw[letB_no hl,decide_eq_false (p:=(48<=c.toNat/\c.toNat<=57)\/c=43\/c=45\/c=46)]
 ·rfl
 ·rintro (h1 | h1 | h1 | h1)
  ·omega
  ·exact h.1 (by rw[h1];rfl)
  ·exact h.2.1 (by rw[h1];rfl)
  ·exact h.2.2 (by rw[h1];rfl)
end Utf1
namespace Go.Proofs.YtkiofbikkhhdfabGreatDoor.Ul
open Go.RowKit
open Utf1
theorem next_some (P:Program) (w:World) (k:Nat) (s:ByteArray) (pos:Nat)(hk:w.heap[k]?=some (.stringIter s pos))(h:pos < s.size) :
  ∃ r wd:Nat,1<=wd/\wd<=4/\pos+wd<=s.size/\r<=1114111/\dl ((bl s).drop pos)=(r,wd)/\(∀ ty,(Instr.next (.pointer (some ⟨k,0,none⟩)) true ty).run P w =
   .ok (.tuple #[.bool true,.int .i64 pos,.int .i32 r]) (w.iterAt k s (pos+wd))):=by
 have hne:(bl s).drop pos≠[]:=by
  intro e
  have:=congrArg List.length e
  rw[List.length_drop,bl_len] at this
  simp at this
  omega
 have hw:=dl_width _ hne
 have hsc:=dl_scalar _ hne
 rw[List.length_drop,bl_len] at hw
 refine⟨(dl ((bl s).drop pos)).1,(dl ((bl s).drop pos)).2,hw.1,hw.2.1,by omega,by unfold Scalar at hsc;omega,rfl,fun ty=>?_⟩
 rw[Lib.run_next_any_at w k s pos ty hk h,decode_dl s pos h]
theorem drop_ne (s:ByteArray) (pos:Nat)(h:pos < s.size):(bl s).drop pos≠[]:=by
 intro e
 have:=congrArg List.length e
 rw[List.length_drop,bl_len] at this
 simp at this
 omega
theorem drop_all (s:ByteArray) (pos:Nat)(h:¬ pos < s.size):(bl s).drop pos=[]:=by
 rw[List.drop_eq_nil_iff,bl_len]
 omega
def RowIs (w:World) (B:Nat) (l:List UInt8):Prop :=
 ∃ C fz,w.heap[B]?=some (.cells C 5 fz)/\l.length<=fz.1/\∀ j (hj:j < l.length),C[j]?=some (.int .u8 (l[j].toNat:Int))
theorem RowIs.cell {w:World}{B:Nat}{l:List UInt8}(h:RowIs w B l) (j:Nat)(hj:j < l.length):w.cell? ⟨B,j,none⟩=some (.int .u8 (l[j].toNat:Int)):=by
 obtain⟨C,fz,hB,_,hc⟩:=h
 unfold World.cell?
 rw[hB]
 simpa using hc j hj
theorem RowIs.frozen {w:World}{B:Nat}{l:List UInt8}(h:RowIs w B l) (j:Nat)(hj:j < l.length):w.frozen? ⟨B,j,none⟩=false:=by
 obtain⟨C,fz,hB,hl,_⟩:=h
 unfold World.frozen?
 rw[hB]
 simp
 omega
theorem RowIs.set {w:World}{B:Nat}{l:List UInt8}(h:RowIs w B l) (j:Nat) (x:UInt8):RowIs (w.setCell ⟨B,j,none⟩ (.int .u8 (x.toNat:Int))) B (l.set j x):=by
 obtain⟨C,fz,hB,hl,hc⟩:=h
 refine⟨C.setIfInBounds j (.int .u8 (x.toNat:Int)),fz,?_,by simpa using hl,?_⟩
 ·simp[World.setCell,Array.getElem?_modify,hB]
 ·intro i hi
  rw[List.length_set] at hi
  have h1:=hc i hi
  have hiC:i < C.size:=(Array.getElem?_eq_some_iff.1 h1).1
  by_cases e:j=i
  ·subst e
   simp[hiC]
  ·simp[Array.getElem?_setIfInBounds_ne,e,h1]
theorem RowIs.iterAt {w:World}{B:Nat}{l:List UInt8}(h:RowIs w B l) (k:Nat)(hk:k≠B) (s:ByteArray) (pos:Nat):RowIs (w.iterAt k s pos) B l:=by
 obtain⟨C,fz,hB,hl,hc⟩:=h
 exact⟨C,fz,(Lib.iterAt_other w k B s pos (Ne.symm hk)).trans hB,hl,hc⟩
theorem RowIs.alloc {w:World}{B:Nat}{l:List UInt8}(h:RowIs w B l) (o:Obj):RowIs (w.alloc o) B l:=by
 obtain⟨C,fz,hB,hl,hc⟩:=h
 have hlt:B < w.heap.size:=(Array.getElem?_eq_some_iff.1 hB).1
 exact⟨C,fz,(Lib.alloc_old w o B hlt).trans hB,hl,hc⟩
theorem conv_back (w:World) (B cap n:Nat) (l:List UInt8)(hn:l.length=n)(h:RowIs w B l) :
  (convert 25 9 (.slice (some ⟨B,0,none⟩) n cap)).run Tryz.prog w=.ok (.string ⟨l.toArray⟩) w:=by
 subst hn
 exact run_convert_bytes_back w 25 9 5 ⟨B,0,none⟩ cap l Tryz.underlying25 Tryz.underlying5 Tryz.underlying9 (fun j hj=>by rw[show (⟨B,0,none⟩:Addr).add j=⟨B,j,none⟩ from by cases j <;> simp[Addr.add]];exact h.cell j hj)
theorem row_new (w:World) (s:ByteArray) (cap:Nat):RowIs (w.alloc (.cells (bytesRow s cap) 5 ((bytesRow s cap).size,(bytesRow s cap).size+1))) w.heap.size (bl s):=by
 refine⟨bytesRow s cap,((bytesRow s cap).size,(bytesRow s cap).size+1),?_,?_,fun j hj=>?_⟩
 ·show (w.heap.push _)[w.heap.size]?=_
  simp
 ·rw[bl_len]
  unfold bytesRow
  rw[Array.size_append,Array.size_map]
  exact Nat.le_add_right _ _
 ·rw[bytesRow_at s cap j (by rw[<-Array.length_toList];exact hj)]
  rfl
def mix (s:ByteArray) (pos:Nat):List UInt8:=lower ((bl s).take pos)++(bl s).drop pos
theorem mix_len (s:ByteArray) (pos:Nat):(mix s pos).length=s.size:=by
 unfold mix lower
 rw[List.length_append,List.length_map,<-List.length_append,List.take_append_drop,bl_len]
theorem mix_zero (s:ByteArray):mix s 0=bl s:=by simp[mix,lower]
theorem mix_end (s:ByteArray) (pos:Nat)(h:¬ pos < s.size):mix s pos=lower (bl s):=by
 unfold mix
 rw[drop_all s pos h,List.take_of_length_le (by rw[bl_len];omega),List.append_nil]
theorem mix_keep (s:ByteArray) (pos wd:Nat)(h:lower (((bl s).drop pos).take wd)=((bl s).drop pos).take wd):mix s (pos+wd)=mix s pos:=by
 unfold mix
 have e:(bl s).take (pos+wd)=(bl s).take pos++((bl s).drop pos).take wd:=List.take_add
 have h2:lower ((bl s).take pos++((bl s).drop pos).take wd)=lower ((bl s).take pos)++lower (((bl s).drop pos).take wd):=by simp[lower]
 rw[e,h2,h,List.append_assoc,<-List.drop_drop,List.take_append_drop]
theorem mix_set (s:ByteArray) (pos:Nat)(h:pos < (bl s).length):mix s (pos+1)=(mix s pos).set pos (low8 ((bl s)[pos])):=by
 unfold mix
 have e:(bl s).take (pos+1)=(bl s).take pos++[(bl s)[pos]]:=List.take_succ_eq_append_getElem h
 have h2:lower ((bl s).take pos++[(bl s)[pos]])=lower ((bl s).take pos)++[low8 ((bl s)[pos])]:=by simp[lower]
 have h3:(lower ((bl s).take pos)).length=pos:=by unfold lower;rw[List.length_map,List.length_take];omega
 rw[e,h2,List.set_append_right _ _ (by omega),h3,Nat.sub_self,List.drop_eq_getElem_cons h,List.set_cons_zero,List.append_assoc]
 rfl
theorem mix_at (s:ByteArray) (pos:Nat)(h:pos < (bl s).length)(h2:pos < (mix s pos).length):(mix s pos)[pos]=(bl s)[pos]:=by
 have h3:(lower ((bl s).take pos)).length=pos:=by unfold lower;rw[List.length_map,List.length_take];omega
 apply Option.some.inj
 rw[<-List.getElem?_eq_getElem,<-List.getElem?_eq_getElem]
 unfold mix
 rw[List.getElem?_append_right (by omega),h3,Nat.sub_self,List.getElem?_drop,Nat.add_zero]
theorem lower_any (s:ByteArray) (w:World) :
  Calls Tryz.prog 88 #[.string s] w fun e w'=>e=.returned (.string ⟨(lower (bl s)).toArray⟩)/\Below w.heap.size w w':=by
 have hcv:=fun (w:World) (s:ByteArray)=>run_bytes_of_string (P:=Tryz.prog) w 9 25 5 s Tryz.underlying9 Tryz.underlying25 Tryz.underlying5
 go_enter Tryz.func88,Tryz.ntmps88
 go_wp2
 clear hcv
 go_loopw [] (fun wr=>∃ (pos:Nat),pos<=s.size/\wr.heap[w.heap.size+1]?=some (.stringIter s pos)/\Below w.heap.size w wr/\RowIs wr w.heap.size (mix s pos)) (fun wr=>s.size - wr.iterPos (w.heap.size+1))
 case atStart =>
  refine⟨0,Nat.zero_le _,?_,(((Below.refl _ w).alloc (Nat.le_refl _) _).drew).alloc (by simp) _,?_⟩
  ·have:=World.iter_heap ((w.alloc (Obj.cells (bytesRow s (grownCap w s.size 0 5)) 5 ((bytesRow s (grownCap w s.size 0 5)).size,(bytesRow s (grownCap w s.size 0 5)).size+1))).drew) s 0
   simpa using this
  ·rw[mix_zero]
   exact (row_new w s _).alloc _
 case round =>
  obtain⟨pos,hp,hit,hbw,hrow⟩:=hrel
  by_cases hlt:pos < s.size
  ·obtain⟨r,wd,hw1,hw4,hwl,hr,hdl,hnx⟩:=next_some Tryz.prog wr (w.heap.size+1) s pos hit hlt
   have hit2:=Lib.iterAt_heap wr (w.heap.size+1) s pos (pos+wd) hit
   have hbw2:=Lib.below_iterAt hbw (k:=w.heap.size+1) (by omega) s (pos+wd)
   have hrow2:=hrow.iterAt (w.heap.size+1) (by omega) s (pos+wd)
   have hlh:=low_head _ (drop_ne s pos hlt)
   rw[hdl] at hlh
   clear hdl
   rcases hlh with⟨hu1,hu2,hwd,hra⟩ | ⟨hu,hlo⟩
   ·have hu1:65<=r:=hu1
    have hu2:r<=90:=hu2
    have hwd:wd=1:=hwd
    have hl:pos < (bl s).length:=by rw[bl_len];exact hlt
    have hml:pos < (mix s pos).length:=by rw[mix_len];exact hlt
    have hby:(bl s)[pos].toNat=r:=by
     rw[show r=atN ((bl s).drop pos) 0 from hra]
     unfold atN
     rw[List.getD_eq_getElem?_getD,List.getElem?_drop,Nat.add_zero,List.getElem?_eq_getElem hl]
     rfl
    have hce:=hrow2.cell pos hml
    rw[mix_at s pos hl hml,hby] at hce
    have hfz:=hrow2.frozen pos hml
    subst hwd
    have HBY:=hide hby
    clear hby hra
    have hne:w.heap.size+1≠w.heap.size:=by omega
    have HV:Hid ((r:Int)+32=((low8 (bl s)[pos]).toNat:Int)):=by
     show (r:Int)+32=((low8 (bl s)[pos]).toNat:Int)
     rw[low8_toNat,HBY.out]
     unfold lowN
     rw[if_pos ⟨hu1,hu2⟩]
     go_num
    go_wp2
    have hit3:∀ v,((wr.iterAt (w.heap.size+1) s (pos+1)).setCell ⟨w.heap.size,pos,none⟩ v).heap[w.heap.size+1]?=some (.stringIter s (pos+1)):=fun v=>(Below.heap_setCell _ _ _ _ hne).trans hit2
    refine⟨⟨pos+1,hwl,hit3 _,hbw2.setCell (Nat.le_refl _) _,?_⟩,?_⟩
    ·rw[HV.out,mix_set s pos hl]
     exact hrow2.set pos _
    ·simp only[World.iterPos,hit3,hit]
     omega
   ·have hu:¬ (65<=r/\r<=90):=hu
    rw[<-mix_keep s pos wd hlo] at hrow2
    clear hlo
    by_cases h65:65<=r
    ·have h90:¬ r<=90:=by omega
     go_wp2
     go_roundw
     case rel=>exact⟨pos+wd,hwl,hit2,hbw2,hrow2⟩
     case measure =>
      simp only[World.iterPos,hit2,hit]
      omega
    ·go_wp2
     go_roundw
     case rel=>exact⟨pos+wd,hwl,hit2,hbw2,hrow2⟩
     case measure =>
      simp only[World.iterPos,hit2,hit]
      omega
  ·have hnx:∀ ty,(Instr.next (.pointer (some ⟨w.heap.size+1,0,none⟩)) true ty).run Tryz.prog wr=_:=fun ty=>Lib.run_next_end_at wr (w.heap.size+1) s pos ty hit hlt
   rw[mix_end s pos hlt] at hrow
   have hcb:=conv_back wr w.heap.size (grownCap w s.size 0 5) s.size (lower (bl s)) (by unfold lower;rw[List.length_map];exact bl_len s) hrow
   go_wp2
   go_ret
   exact⟨rfl,hbw⟩
end Go.Proofs.YtkiofbikkhhdfabGreatDoor.Ul
namespace Go.Proofs.YtkiofbikkhhdfabGreatDoor.Ul
open Go.RowKit
open Utf1
end Go.Proofs.YtkiofbikkhhdfabGreatDoor.Ul
namespace Go.Proofs.YtkiofbikkhhdfabGreatDoor.Ul
open Go.RowKit
open Utf1
theorem le32 (c:UInt8):decide ((c.toNat:Int)<=32)=blk c:=by
 unfold blk
 by_cases h:c.toNat<=32
 ·rw[decide_eq_true h,decide_eq_true (by omega)]
 ·rw[decide_eq_false h,decide_eq_false (by omega)]
theorem neK (c:UInt8) (n:Nat)(hn:n < 256):((c.toNat:Int) != (n:Int))=decide (c≠UInt8.ofNat n):=by
 by_cases h:c=UInt8.ofNat n
 ·have e:(c.toNat:Int)=(n:Int):=by rw[h,toNat_ofNat hn]
  rw[decide_eq_false (fun e=>e h),e]
  simp
 ·have e:¬ (c.toNat:Int)=(n:Int):=fun e=>h ((u8_eq hn).2 (by omega))
  rw[decide_eq_true h]
  simpa using e
end Go.Proofs.YtkiofbikkhhdfabGreatDoor.Ul
namespace Go.Proofs.YtkiofbikkhhdfabGreatDoor.Ul
open Go.RowKit
open Utf1
def schS:Option (List UInt8)->ByteArray
 | some x=>⟨x.toArray⟩
 | none=>⟨#[]⟩
end Go.Proofs.YtkiofbikkhhdfabGreatDoor.Ul
