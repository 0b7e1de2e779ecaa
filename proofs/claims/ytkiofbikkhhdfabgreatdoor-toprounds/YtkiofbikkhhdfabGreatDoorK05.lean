import Derived.Test.YtkiofbikkhhdfabGreatDoorShelf
import Derived.Test.YtkiofbikkhhdfabGreatDoorK04
import Derived.Test.YtkiofbikkhhdfabGreatDoorMath
import Derived.WalkKit
import Derived.WalkSpells
import Derived.WalkLawsBesides
import Derived.BigCall
import Derived.Laws.IdiomStrings
import Derived.Test.YtkiofbikkhhdfabGreatDoorK01
import Derived.Deep.WholeRow
import Derived.Laws.Tables
import Derived.KernelRfl
namespace Go.Proofs.YtkiofbikkhhdfabGreatDoor.To
open Go.RowKit
open Utf1
theorem next_some (P:Program) (w:World) (k:Nat) (s:ByteArray) (pos:Nat)(hk:w.heap[k]?=some (.stringIter s pos))(h:pos < s.size) :
  ∃ r wd:Nat,1<=wd/\wd<=4/\pos+wd<=s.size/\r<=1114111/\dl ((bl s).drop pos)=(r,wd)/\(∀ ty,(Instr.next (.pointer (some ⟨k,0,none⟩)) true ty).run P w =
   .ok (.tuple #[.bool true,.int .i64 pos,.int .i32 r]) (w.iterAt k s (pos+wd))):=by
 have hne:(bl s).drop pos≠[]:=by
  intro e
  have:=congrArg List.length e
  rw[List.length_drop,bl_len] at this
  simp at this
  omega
 have hw:=dl_width _ hne
 have hsc:=dl_scalar _ hne
 rw[List.length_drop,bl_len] at hw
 refine⟨(dl ((bl s).drop pos)).1,(dl ((bl s).drop pos)).2,hw.1,hw.2.1,by omega,by unfold Scalar at hsc;omega,rfl,fun ty=>?_⟩
 rw[Lib.run_next_any_at w k s pos ty hk h,decode_dl s pos h]
theorem drop_ne (s:ByteArray) (pos:Nat)(h:pos < s.size):(bl s).drop pos≠[]:=by
 intro e
 have:=congrArg List.length e
 rw[List.length_drop,bl_len] at this
 simp at this
 omega
theorem drop_all (s:ByteArray) (pos:Nat)(h:¬ pos < s.size):(bl s).drop pos=[]:=by
 rw[List.drop_eq_nil_iff,bl_len]
 omega
def RowIs (w:World) (B:Nat) (l:List UInt8):Prop :=
 ∃ C fz,w.heap[B]?=some (.cells C 5 fz)/\l.length<=fz.1/\∀ j (hj:j < l.length),C[j]?=some (.int .u8 (l[j].toNat:Int))
theorem RowIs.cell {w:World}{B:Nat}{l:List UInt8}(h:RowIs w B l) (j:Nat)(hj:j < l.length):w.cell? ⟨B,j,none⟩=some (.int .u8 (l[j].toNat:Int)):=by
 obtain⟨C,fz,hB,_,hc⟩:=h
 unfold World.cell?
 rw[hB]
 simpa using hc j hj
theorem RowIs.frozen {w:World}{B:Nat}{l:List UInt8}(h:RowIs w B l) (j:Nat)(hj:j < l.length):w.frozen? ⟨B,j,none⟩=false:=by
 obtain⟨C,fz,hB,hl,_⟩:=h
 unfold World.frozen?
 rw[hB]
 simp
 omega
theorem RowIs.set {w:World}{B:Nat}{l:List UInt8}(h:RowIs w B l) (j:Nat) (x:UInt8):RowIs (w.setCell ⟨B,j,none⟩ (.int .u8 (x.toNat:Int))) B (l.set j x):=by
 obtain⟨C,fz,hB,hl,hc⟩:=h
 refine⟨C.setIfInBounds j (.int .u8 (x.toNat:Int)),fz,?_,by simpa using hl,?_⟩
 ·simp[World.setCell,Array.getElem?_modify,hB]
 ·intro i hi
  rw[List.length_set] at hi
  have h1:=hc i hi
  have hiC:i < C.size:=(Array.getElem?_eq_some_iff.1 h1).1
  by_cases e:j=i
  ·subst e
   simp[hiC]
  ·simp[Array.getElem?_setIfInBounds_ne,e,h1]
theorem RowIs.iterAt {w:World}{B:Nat}{l:List UInt8}(h:RowIs w B l) (k:Nat)(hk:k≠B) (s:ByteArray) (pos:Nat):RowIs (w.iterAt k s pos) B l:=by
 obtain⟨C,fz,hB,hl,hc⟩:=h
 exact⟨C,fz,(Lib.iterAt_other w k B s pos (Ne.symm hk)).trans hB,hl,hc⟩
theorem RowIs.alloc {w:World}{B:Nat}{l:List UInt8}(h:RowIs w B l) (o:Obj):RowIs (w.alloc o) B l:=by
 obtain⟨C,fz,hB,hl,hc⟩:=h
 have hlt:B < w.heap.size:=(Array.getElem?_eq_some_iff.1 hB).1
 exact⟨C,fz,(Lib.alloc_old w o B hlt).trans hB,hl,hc⟩
theorem conv_back (w:World) (B cap n:Nat) (l:List UInt8)(hn:l.length=n)(h:RowIs w B l) :
  (convert 25 9 (.slice (some ⟨B,0,none⟩) n cap)).run Tryz.prog w=.ok (.string ⟨l.toArray⟩) w:=by
 subst hn
 exact run_convert_bytes_back w 25 9 5 ⟨B,0,none⟩ cap l Tryz.underlying25 Tryz.underlying5 Tryz.underlying9 (fun j hj=>by rw[show (⟨B,0,none⟩:Addr).add j=⟨B,j,none⟩ from by cases j <;> simp[Addr.add]];exact h.cell j hj)
theorem row_new (w:World) (s:ByteArray) (cap:Nat):RowIs (w.alloc (.cells (bytesRow s cap) 5 ((bytesRow s cap).size,(bytesRow s cap).size+1))) w.heap.size (bl s):=by
 refine⟨bytesRow s cap,((bytesRow s cap).size,(bytesRow s cap).size+1),?_,?_,fun j hj=>?_⟩
 ·show (w.heap.push _)[w.heap.size]?=_
  simp
 ·rw[bl_len]
  unfold bytesRow
  rw[Array.size_append,Array.size_map]
  exact Nat.le_add_right _ _
 ·rw[bytesRow_at s cap j (by rw[<-Array.length_toList];exact hj)]
  rfl
def mix (s:ByteArray) (pos:Nat):List UInt8:=lower ((bl s).take pos)++(bl s).drop pos
theorem mix_len (s:ByteArray) (pos:Nat):(mix s pos).length=s.size:=by
 unfold mix lower
 rw[List.length_append,List.length_map,<-List.length_append,List.take_append_drop,bl_len]
theorem mix_zero (s:ByteArray):mix s 0=bl s:=by simp[mix,lower]
theorem mix_end (s:ByteArray) (pos:Nat)(h:¬ pos < s.size):mix s pos=lower (bl s):=by
 unfold mix
 rw[drop_all s pos h,List.take_of_length_le (by rw[bl_len];omega),List.append_nil]
theorem mix_keep (s:ByteArray) (pos wd:Nat)(h:lower (((bl s).drop pos).take wd)=((bl s).drop pos).take wd):mix s (pos+wd)=mix s pos:=by
 unfold mix
 have e:(bl s).take (pos+wd)=(bl s).take pos++((bl s).drop pos).take wd:=List.take_add
 have h2:lower ((bl s).take pos++((bl s).drop pos).take wd)=lower ((bl s).take pos)++lower (((bl s).drop pos).take wd):=by simp[lower]
 rw[e,h2,h,List.append_assoc,<-List.drop_drop,List.take_append_drop]
theorem mix_set (s:ByteArray) (pos:Nat)(h:pos < (bl s).length):mix s (pos+1)=(mix s pos).set pos (low8 ((bl s)[pos])):=by
 unfold mix
 have e:(bl s).take (pos+1)=(bl s).take pos++[(bl s)[pos]]:=List.take_succ_eq_append_getElem h
 have h2:lower ((bl s).take pos++[(bl s)[pos]])=lower ((bl s).take pos)++[low8 ((bl s)[pos])]:=by simp[lower]
 have h3:(lower ((bl s).take pos)).length=pos:=by unfold lower;rw[List.length_map,List.length_take];omega
 rw[e,h2,List.set_append_right _ _ (by omega),h3,Nat.sub_self,List.drop_eq_getElem_cons h,List.set_cons_zero,List.append_assoc]
 rfl
theorem mix_at (s:ByteArray) (pos:Nat)(h:pos < (bl s).length)(h2:pos < (mix s pos).length):(mix s pos)[pos]=(bl s)[pos]:=by
 have h3:(lower ((bl s).take pos)).length=pos:=by unfold lower;rw[List.length_map,List.length_take];omega
 apply Option.some.inj
 rw[<-List.getElem?_eq_getElem,<-List.getElem?_eq_getElem]
 unfold mix
 rw[List.getElem?_append_right (by omega),h3,Nat.sub_self,List.getElem?_drop,Nat.add_zero]
set_option maxHeartbeats 1000000 in
theorem lower_any (s:ByteArray) (w:World) :
  Calls Tryz.prog 88 #[.string s] w fun e w'=>e=.returned (.string ⟨(lower (bl s)).toArray⟩)/\Below w.heap.size w w':=by
 have hcv:=fun (w:World) (s:ByteArray)=>run_bytes_of_string (P:=Tryz.prog) w 9 25 5 s Tryz.underlying9 Tryz.underlying25 Tryz.underlying5
 go_enter Tryz.func88,Tryz.ntmps88
 go_wp2
 clear hcv
 go_loopw [] (fun wr=>∃ (pos:Nat),pos<=s.size/\wr.heap[w.heap.size+1]?=some (.stringIter s pos)/\Below w.heap.size w wr/\RowIs wr w.heap.size (mix s pos)) (fun wr=>s.size - wr.iterPos (w.heap.size+1))
 case atStart =>
  refine⟨0,Nat.zero_le _,?_,(((Below.refl _ w).alloc (Nat.le_refl _) _).drew).alloc (by simp) _,?_⟩
  ·have:=World.iter_heap ((w.alloc (Obj.cells (bytesRow s (grownCap w s.size 0 5)) 5 ((bytesRow s (grownCap w s.size 0 5)).size,(bytesRow s (grownCap w s.size 0 5)).size+1))).drew) s 0
   simpa using this
  ·rw[mix_zero]
   exact (row_new w s _).alloc _
 case round =>
  obtain⟨pos,hp,hit,hbw,hrow⟩:=hrel
  by_cases hlt:pos < s.size
  ·obtain⟨r,wd,hw1,hw4,hwl,hr,hdl,hnx⟩:=next_some Tryz.prog wr (w.heap.size+1) s pos hit hlt
   have hit2:=Lib.iterAt_heap wr (w.heap.size+1) s pos (pos+wd) hit
   have hbw2:=Lib.below_iterAt hbw (k:=w.heap.size+1) (by omega) s (pos+wd)
   have hrow2:=hrow.iterAt (w.heap.size+1) (by omega) s (pos+wd)
   have hlh:=low_head _ (drop_ne s pos hlt)
   rw[hdl] at hlh
   clear hdl
   rcases hlh with⟨hu1,hu2,hwd,hra⟩ | ⟨hu,hlo⟩
   ·have hu1:65<=r:=hu1
    have hu2:r<=90:=hu2
    have hwd:wd=1:=hwd
    have hl:pos < (bl s).length:=by rw[bl_len];exact hlt
    have hml:pos < (mix s pos).length:=by rw[mix_len];exact hlt
    have hby:(bl s)[pos].toNat=r:=by
     rw[show r=atN ((bl s).drop pos) 0 from hra]
     unfold atN
     rw[List.getD_eq_getElem?_getD,List.getElem?_drop,Nat.add_zero,List.getElem?_eq_getElem hl]
     rfl
    have hce:=hrow2.cell pos hml
    rw[mix_at s pos hl hml,hby] at hce
    have hfz:=hrow2.frozen pos hml
    subst hwd
    have HBY:=hide hby
    clear hby hra
    have hne:w.heap.size+1≠w.heap.size:=by omega
    have HV:Hid ((r:Int)+32=((low8 (bl s)[pos]).toNat:Int)):=by
     show (r:Int)+32=((low8 (bl s)[pos]).toNat:Int)
     rw[low8_toNat,HBY.out]
     unfold lowN
     rw[if_pos ⟨hu1,hu2⟩]
     go_num
    go_wp2
    have hit3:∀ v,((wr.iterAt (w.heap.size+1) s (pos+1)).setCell ⟨w.heap.size,pos,none⟩ v).heap[w.heap.size+1]?=some (.stringIter s (pos+1)):=fun v=>(Below.heap_setCell _ _ _ _ hne).trans hit2
    refine⟨⟨pos+1,hwl,hit3 _,hbw2.setCell (Nat.le_refl _) _,?_⟩,?_⟩
    ·rw[HV.out,mix_set s pos hl]
     exact hrow2.set pos _
    ·simp only[World.iterPos,hit3,hit]
     omega
   ·have hu:¬ (65<=r/\r<=90):=hu
    rw[<-mix_keep s pos wd hlo] at hrow2
    clear hlo
    by_cases h65:65<=r
    ·have h90:¬ r<=90:=by omega
     go_wp2
     go_roundw
     case rel=>exact⟨pos+wd,hwl,hit2,hbw2,hrow2⟩
     case measure =>
      simp only[World.iterPos,hit2,hit]
      omega
    ·go_wp2
     go_roundw
     case rel=>exact⟨pos+wd,hwl,hit2,hbw2,hrow2⟩
     case measure =>
      simp only[World.iterPos,hit2,hit]
      omega
  ·have hnx:∀ ty,(Instr.next (.pointer (some ⟨w.heap.size+1,0,none⟩)) true ty).run Tryz.prog wr=_:=fun ty=>Lib.run_next_end_at wr (w.heap.size+1) s pos ty hit hlt
   rw[mix_end s pos hlt] at hrow
   have hcb:=conv_back wr w.heap.size (grownCap w s.size 0 5) s.size (lower (bl s)) (by unfold lower;rw[List.length_map];exact bl_len s) hrow
   go_wp2
   go_ret
   exact⟨rfl,hbw⟩
end Go.Proofs.YtkiofbikkhhdfabGreatDoor.To
namespace Go.Proofs.YtkiofbikkhhdfabGreatDoor.To
open Go.RowKit
open Utf1
def oT:Option Nat->ByteArray
 | some r=>⟨(er r).toArray⟩
 | none=>⟨#[]⟩
def optS (o:Option Nat):Value:=.tuple #[.string (oT o),.bool o.isSome]
def buildAll (P:Program):List Oper->Act->Option Act
 | [],a=>some a
 | o :: os,a=>match o.guard,o.op with
  | none,.build t parts=>match P.built t (parts.map fun (i,x)=>(i,a.eval x)).toList with
   | some cs=>buildAll P os (a.put o.dst (.agg cs))
   | none=>none
  | _,_=>none
theorem wpList_builds0 {P:Program}{ops:Array Oper}{Q:Exit->Act->World->Prop}{w:World}(rest:List Oper):∀ (os:List Oper) (a a':Act),buildAll P os a=some a'->wpList P ops Q rest a' w->wpList P ops Q (os++rest) a w
 | [],a,a',h,hr=>by
  simp only[buildAll] at h
  cases h
  exact hr
 | o :: os,a,a',h,hr=>by
  unfold buildAll at h
  split at h
  ·rename_i t parts hg ho
   split at h
   ·rename_i cs hc
    refine wpList_build hg t parts ho (by rw[hc];rfl) ?_
    rw[hc]
    exact wpList_builds0 rest os _ a' h hr
   ·cases h
  ·cases h
theorem wpList_builds {P:Program}{ops:Array Oper}{Q:Exit->Act->World->Prop}{w:World}(n:Nat) (l:List Oper) (a a':Act)(h:buildAll P (l.take n) a=some a')(hr:wpList P ops Q (l.drop n) a' w):wpList P ops Q l a w:=by
 have:=wpList_builds0 (l.drop n) (l.take n) a a' h hr
 rw[List.take_append_drop] at this
 exact this
theorem wpList_loadV {P:Program}{ops:Array Oper}{rest:List Oper}{o:Oper}{a:Act}{w w':World}{Q:Exit->Act->World->Prop}(hg:o.guard=none) (t:TypeId) (x:Operand)(ho:o.op=.load t x) (v:Value)
  (hx:(Instr.loadAt t (a.eval x)).run P w=.ok v w')(h:wpList P ops Q rest (a.put o.dst v) w'):wpList P ops Q (o :: rest) a w :=
 wpList_plain hg fun K hK=>by
  unfold Oper.wp execOp
  simp only[ho,Sem.run_bind,hx,Result.andThen_ok]
  exact hK _ _ h
theorem wpList_allocV {P:Program}{ops:Array Oper}{rest:List Oper}{o:Oper}{a:Act}{w w':World}{Q:Exit->Act->World->Prop}(hg:o.guard=none) (t:TypeId)(ho:o.op=.alloc t) (v:Value)
  (hx:(Instr.alloc t true (.tuple #[])).run P w=.ok v w')(h:wpList P ops Q rest (a.put o.dst v) w'):wpList P ops Q (o :: rest) a w :=
 wpList_plain hg fun K hK=>by
  unfold Oper.wp execOp
  simp only[ho,Sem.run_bind,hx,Result.andThen_ok]
  exact hK _ _ h
def nameCells:Array Value:=#[.string ⟨#[97,109,112]⟩,.int .i32 38,.string ⟨#[108,116]⟩,.int .i32 60,.string ⟨#[103,116]⟩,.int .i32 62,.string ⟨#[113,117,111,116]⟩,.int .i32 34,.string ⟨#[97,112,111,115]⟩,.int .i32 39,.string ⟨#[110,98,115,112]⟩,.int .i32 160,.string ⟨#[99,111,112,121]⟩,.int .i32 169,.string ⟨#[114,101,103]⟩,.int .i32 174,.string ⟨#[100,101,103]⟩,.int .i32 176,.string ⟨#[109,105,100,100,111,116]⟩,.int .i32 183,.string ⟨#[108,97,113,117,111]⟩,.int .i32 171,.string ⟨#[114,97,113,117,111]⟩,.int .i32 187,.string ⟨#[116,105,109,101,115]⟩,.int .i32 215,.string ⟨#[101,97,99,117,116,101]⟩,.int .i32 233,.string ⟨#[110,100,97,115,104]⟩,.int .i32 8211,.string ⟨#[109,100,97,115,104]⟩,.int .i32 8212,.string ⟨#[108,115,113,117,111]⟩,.int .i32 8216,.string ⟨#[114,115,113,117,111]⟩,.int .i32 8217,.string ⟨#[108,100,113,117,111]⟩,.int .i32 8220,.string ⟨#[114,100,113,117,111]⟩,.int .i32 8221,.string ⟨#[104,101,108,108,105,112]⟩,.int .i32 8230,.string ⟨#[101,117,114,111]⟩,.int .i32 8364]
def zeroCells:Array Value:=#[.string ⟨#[]⟩,.int .i32 0,.string ⟨#[]⟩,.int .i32 0,.string ⟨#[]⟩,.int .i32 0,.string ⟨#[]⟩,.int .i32 0,.string ⟨#[]⟩,.int .i32 0,.string ⟨#[]⟩,.int .i32 0,.string ⟨#[]⟩,.int .i32 0,.string ⟨#[]⟩,.int .i32 0,.string ⟨#[]⟩,.int .i32 0,.string ⟨#[]⟩,.int .i32 0,.string ⟨#[]⟩,.int .i32 0,.string ⟨#[]⟩,.int .i32 0,.string ⟨#[]⟩,.int .i32 0,.string ⟨#[]⟩,.int .i32 0,.string ⟨#[]⟩,.int .i32 0,.string ⟨#[]⟩,.int .i32 0,.string ⟨#[]⟩,.int .i32 0,.string ⟨#[]⟩,.int .i32 0,.string ⟨#[]⟩,.int .i32 0,.string ⟨#[]⟩,.int .i32 0,.string ⟨#[]⟩,.int .i32 0,.string ⟨#[]⟩,.int .i32 0]
def nv (k:Nat):Value:=.agg #[.string ⟨(names.getD k ([],0)).1.toArray⟩,.int .i32 ((names.getD k ([],0)).2:Int)]
theorem names_alloc (w:World):(Instr.alloc 156 true (.tuple #[])).run Tryz.prog w=.ok (.pointer (some ⟨w.heap.size,0,none⟩)) (w.alloc (.cells zeroCells 156)):=by kernel_rfl
theorem names_load (w:World):(Instr.loadAt 156 (.pointer (some ⟨w.heap.size,0,none⟩))).run Tryz.prog (w.alloc (.cells nameCells 156))=.ok (.agg nameCells) (w.alloc (.cells nameCells 156)):=run_loadAt_new w 156 nameCells 22 155 Tryz.underlying156 (by kernel_rfl)
theorem names_index:∀ (k:Nat)(hk:k < 22) (w:World),(Instr.index 156 (.agg nameCells) (.int .i64 (k:Int))).run Tryz.prog w=.ok (.agg #[.string ⟨(names[k]'hk).1.toArray⟩,.int .i32 ((names[k]'hk).2:Int)]) w
 | 0,_,w=>by kernel_rfl
 | 1,_,w=>by kernel_rfl
 | 2,_,w=>by kernel_rfl
 | 3,_,w=>by kernel_rfl
 | 4,_,w=>by kernel_rfl
 | 5,_,w=>by kernel_rfl
 | 6,_,w=>by kernel_rfl
 | 7,_,w=>by kernel_rfl
 | 8,_,w=>by kernel_rfl
 | 9,_,w=>by kernel_rfl
 | 10,_,w=>by kernel_rfl
 | 11,_,w=>by kernel_rfl
 | 12,_,w=>by kernel_rfl
 | 13,_,w=>by kernel_rfl
 | 14,_,w=>by kernel_rfl
 | 15,_,w=>by kernel_rfl
 | 16,_,w=>by kernel_rfl
 | 17,_,w=>by kernel_rfl
 | 18,_,w=>by kernel_rfl
 | 19,_,w=>by kernel_rfl
 | 20,_,w=>by kernel_rfl
 | 21,_,w=>by kernel_rfl
 | k+22,h,_=>by omega
set_option maxHeartbeats 4000000 in
set_option maxRecDepth 100000 in
theorem named_any (s:ByteArray) (w:World) :
  Calls Tryz.prog 99 #[.string s] w fun e w'=>e=.returned (optS (named (bl s)))/\Below w.heap.size w w':=by
 go_enter Tryz.func99,Tryz.ntmps99
 go_step
 go_step
 rename_i k0
 go_step
 go_step
 rename_i k1
 go_simp
 refine k1 _ _ ?_
 clear k1
 go_step
 rename_i k1
 go_simp
 refine k1 _ _ ?_
 clear k1
 go_step
 go_simp
 refine k0 _ _ ?_
 clear k0
 go_step
 rename_i k0
 go_step
 refine wpList_builds 23 _ _ ⟨#[.string s,undef,.string ⟨#[]⟩,.bool false,undef,undef,undef,nv 0,nv 1,nv 2,nv 3,nv 4,nv 5,nv 6,nv 7,nv 8,nv 9,nv 10,nv 11,nv 12,nv 13,nv 14,nv 15,nv 16,nv 17,nv 18,nv 19,nv 20,nv 21,.agg nameCells,undef,undef,undef,undef,undef,undef,undef,undef,undef,undef,undef,undef],[]⟩ (by kernel_rfl) ?_
 simp only[List.drop_succ_cons,List.drop_zero]
 refine wpList_allocV rfl 156 rfl _ (names_alloc w) ?_
 refine wpList_store_row rfl 156 _ _ rfl w.heap.size nameCells rfl rfl 156 zeroCells (heap_alloc_last w _) (by kernel_rfl) (by kernel_rfl) (by kernel_rfl) ?_
 rw[World.setRow_alloc_new]
 go_step
 refine k0 ⟨#[.string s,undef,.string ⟨#[]⟩,.bool false,.pointer (some ⟨w.heap.size,0,none⟩),undef,undef,nv 0,nv 1,nv 2,nv 3,nv 4,nv 5,nv 6,nv 7,nv 8,nv 9,nv 10,nv 11,nv 12,nv 13,nv 14,nv 15,nv 16,nv 17,nv 18,nv 19,nv 20,nv 21,.agg nameCells,undef,undef,undef,undef,undef,undef,undef,undef,undef,undef,undef,undef],[]⟩ _ ?_
 clear k0
 go_step
 go_step
 go_step
 refine wpList_loadV (w':=w.alloc (.cells nameCells 156)) rfl 156 (Operand.tmp 4) rfl (.agg nameCells) ?hx ?_
 case hx=>exact names_load w
 obtain⟨W,hW⟩:∃ W,W=w.alloc (.cells nameCells 156):=⟨_,rfl⟩
 have hb0:Below w.heap.size w W:=by rw[hW];exact (Below.refl _ w).alloc (Nat.le_refl _) _
 rw[<-hW]
 clear hW
 obtain⟨N,hN⟩:∃ N,N=nameCells:=⟨_,rfl⟩
 have hix:=names_index
 rw[<-hN] at hix ⊢
 clear hN
 simp only[Act.put]
 go_wp2
 go_loopw [31] (fun vi wr=>∃ k:Nat,vi=.int .i64 (k:Int)/\k<=22/\Below w.heap.size w wr/\Hid (lookN (names.drop k) (bl s)=named (bl s))) (fun vi _=>22 - (intOf vi).toNat)
 case atStart=>exact⟨0,rfl,by omega,hb0,hide rfl⟩
 case round =>
  obtain⟨k,rfl,hk,hbw,HL⟩:=hrel
  by_cases hlt:k < 22
  ·replace hix:=hix k hlt
   have HS:Hid (lookN (names.drop k) (bl s)=if (names[k]'hlt).1=bl s then some (names[k]'hlt).2 else lookN (names.drop (k+1)) (bl s)):=hide (by rw[List.drop_eq_getElem_cons (show k < names.length from hlt)];rfl)
   have hsc:Scalar (names[k]'hlt).2:=.inl (names_facts _ (List.getElem_mem ..)).2.2.1
   generalize (names[k]'hlt)=p at hix HS hsc
   obtain⟨nm,ch⟩:=p
   simp only at hix HS hsc
   have henc:=encode_er ch hsc
   have hch:ch<=1114111:=by unfold Scalar at hsc;omega
   obtain⟨z,hz⟩:∃ z:Int,z=(ch:Int):=⟨_,rfl⟩
   rw[<-hz] at hix henc
   obtain⟨nb,hnb⟩:∃ nb:ByteArray,nb=⟨nm.toArray⟩:=⟨_,rfl⟩
   rw[<-hnb] at hix
   by_cases he:nb=s
   ·have HR:Hid (named (bl s)=some ch):=hide (by rw[<-HL.out,HS.out,if_pos (by rw[<-he,hnb])])
    have z0:0<=z:=by omega
    have z1:z<=1114111:=by omega
    subst he
    clear hnb hz HS HL
    go_wp2
    go_ret2
    rw[HR.out]
    exact⟨rfl,hbw.alloc hbw.size _⟩
   ·have HR:Hid (lookN (names.drop (k+1)) (bl s)=named (bl s)):=hide (by
     rw[<-HL.out,HS.out,if_neg]
     intro e
     apply he
     rw[hnb,e])
    have hnd:(nb.toList==s.toList)=false:=beq_ne (fun e=>he (by
     cases nb;cases s
     simpa using e))
    have z0:0<=z:=by omega
    have z1:z<=1114111:=by omega
    clear hnb hz HS HL he henc
    go_wp2
    exact⟨⟨k+1,rfl,by omega,hbw.alloc hbw.size _,HR⟩,by simp[intOf];omega⟩
  ·have hk2:k=22:=by omega
   subst hk2
   have HR:Hid (named (bl s)=none):=hide (by rw[<-HL.out];rfl)
   clear HL
   go_wp2
   go_ret2
   rw[HR.out]
   exact⟨rfl,hbw⟩
end Go.Proofs.YtkiofbikkhhdfabGreatDoor.To
namespace Pol8
def Pol.lists (p:Pol):List (List L):=[p.el,p.at_,p.sc,p.cl,p.pr]
def sizeL (l:List L):Nat:=(l.map fun x=>x.length).sum
def sizeM (l:List L):Nat:=(l.map fun x=>min x.length 10000).sum
def light (p:Pol):Prop:=(∀ l∈p.lists,l.length<=100)/\(p.lists.map sizeL).sum < 6000
theorem mem_sum:∀ (l:List Nat) (x:Nat),x∈l->x<=l.sum
 | y :: l,x,h=>by
  rw[List.sum_cons]
  rcases List.mem_cons.1 h with rfl | h
  ·omega
  ·have:=mem_sum l x h
   omega
theorem sizeM_eq:∀ (l:List L),sizeM l < 6000->sizeM l=sizeL l
 | [],_=>rfl
 | x :: l,h=>by
  have e:sizeM (x :: l)=min x.length 10000+sizeM l:=by simp[sizeM]
  have e2:sizeL (x :: l)=x.length+sizeL l:=by simp[sizeL]
  rw[e] at h
  have:=sizeM_eq l (by omega)
  rw[e,e2,this]
  omega
theorem sizeMs_eq:∀ (ls:List (List L)),(ls.map sizeM).sum < 6000->(ls.map sizeM).sum=(ls.map sizeL).sum
 | [],_=>rfl
 | l :: ls,h=>by
  rw[List.map_cons,List.sum_cons] at h
  rw[List.map_cons,List.sum_cons,List.map_cons,List.sum_cons,sizeM_eq l (by omega),sizeMs_eq ls (by omega)]
theorem sizeM_step (l:List L) (k:Nat) (x:L)(h:l[k]?=some x):sizeM (l.take (k+1))=sizeM (l.take k)+min x.length 10000:=by
 rw[List.take_add_one,h]
 simp[sizeM]
theorem sizeMs_step (ls:List (List L)) (k:Nat) (l:List L)(h:ls[k]?=some l):((ls.take (k+1)).map sizeM).sum=((ls.take k).map sizeM).sum+sizeM l:=by
 rw[List.take_add_one,h]
 simp
end Pol8
namespace Go.Proofs.YtkiofbikkhhdfabGreatDoor
open Go.RowKit
open Utf1 Pol8
theorem light_fits {p:Pol}(h:light p):fits p:=by
 intro l hl
 have h1:=h.1 l hl
 refine⟨by omega,fun x hx=>?_⟩
 have h2:=mem_sum _ _ (List.mem_map_of_mem (f:=sizeL) (l:=p.lists) hl)
 have h3:=mem_sum _ _ (List.mem_map_of_mem (f:=fun x:L=>x.length) hx)
 have h4:=h.2
 have e:sizeL l=(l.map fun x=>x.length).sum:=rfl
 omega
theorem five {α:Type}{P:Nat->α->Prop}{a b c d e:α}(h0:P 0 a)(h1:P 1 b)(h2:P 2 c)(h3:P 3 d)(h4:P 4 e):∀ i x,[a,b,c,d,e][i]?=some x->P i x:=by
 intro i x h
 match i,h with
 | 0,h=>simp at h;subst h;exact h0
 | 1,h=>simp at h;subst h;exact h1
 | 2,h=>simp at h;subst h;exact h2
 | 3,h=>simp at h;subst h;exact h3
 | 4,h=>simp at h;subst h;exact h4
 | i+5,h=>simp at h
set_option maxRecDepth 100000 in
set_option maxHeartbeats 16000000 in
theorem rlight_any (v1 v2 v3 v4 v5:Value) (p:Pol) (l1 l2 l3 l4 l5:List ByteArray) (w:World)(hv:PolV w v1 v2 v3 v4 v5 p l1 l2 l3 l4 l5) :
  Calls Tryz.prog 10 #[.agg #[.int .i64 p.ep,v1,v2,v3,v4,v5,.int .i64 p.dp,.int .i64 p.nd,.int .i64 p.bt]] w fun e w'=>(∃ b:Bool,e=.returned (.bool b)/\(b=true->light p))/\Below w.heap.size w w':=by
 obtain⟨A,hA⟩:∃ A:Array Value,A=#[.int .i64 p.ep,v1,v2,v3,v4,v5,.int .i64 p.dp,.int .i64 p.nd,.int .i64 p.bt]:=⟨_,rfl⟩
 obtain⟨w1,hw1⟩:∃ w1,w1=w.alloc (.cells A 24):=⟨_,rfl⟩
 have HN:Hid (BoxP w A w1):=hide (by rw[hw1];exact⟨new_block _ _ _,bel_alloc (Below.refl _ _) _⟩)
 have hsz:w1.heap.size=w.heap.size+1:=by rw[hw1];simp
 have y1:=HN.out.cell 1 v1 (by rw[hA];rfl)
 have y2:=HN.out.cell 2 v2 (by rw[hA];rfl)
 have y3:=HN.out.cell 3 v3 (by rw[hA];rfl)
 have y4:=HN.out.cell 4 v4 (by rw[hA];rfl)
 have y5:=HN.out.cell 5 v5 (by rw[hA];rfl)
 obtain⟨W2,hW2⟩:∃ W2,W2=w1.alloc (.cells #[v1,v2,v3,v4,v5] 22):=⟨_,rfl⟩
 have hb2:Below w.heap.size w W2:=by rw[hW2];exact bel_alloc HN.out.2 _
 have hblk:W2.heap[w.heap.size+1]?=some (.cells #[v1,v2,v3,v4,v5] 22 (0,0)):=by
  rw[hW2,<-hsz]
  exact new_block _ _ _
 have HL:Hid (∀ i l,p.lists[i]?=some l->∃ (ss:List ByteArray) (pv:Option Addr) (cv:Nat),W2.cell? ⟨w.heap.size+1,i,none⟩=some (.slice pv ss.length cv)/\StrArg W2 (.slice pv ss.length cv) ss/\ss.map bl=l):=hide (by
  have key:∀ (i:Nat) (v:Value) (ss:List ByteArray) (l:List L),#[v1,v2,v3,v4,v5][i]?=some v->StrArg w v ss->ss.map bl=l->∃ (ss:List ByteArray) (pv:Option Addr) (cv:Nat),W2.cell? ⟨w.heap.size+1,i,none⟩=some (.slice pv ss.length cv)/\StrArg W2 (.slice pv ss.length cv) ss/\ss.map bl=l:=by
   intro i v ss l hi hs he
   have hs2:=hs.below hb2
   obtain⟨pv,cv,rfl,-,-⟩:=hs
   exact⟨ss,pv,cv,tag_cell hblk i _ hi,hs2,he⟩
  exact five (key 0 v1 l1 _ rfl hv.s1 hv.e1) (key 1 v2 l2 _ rfl hv.s2 hv.e2) (key 2 v3 l3 _ rfl hv.s3 hv.e3) (key 3 v4 l4 _ rfl hv.s4 hv.e4) (key 4 v5 l5 _ rfl hv.s5 hv.e5))
 have HB2:=hide hb2
 have HLEN:Hid (p.lists.length=5):=hide rfl
 rw[hA] at hw1
 obtain⟨p1,c1,rfl,-,-⟩:=hv.s1
 obtain⟨p2,c2,rfl,-,-⟩:=hv.s2
 obtain⟨p3,c3,rfl,-,-⟩:=hv.s3
 obtain⟨p4,c4,rfl,-,-⟩:=hv.s4
 obtain⟨p5,c5,rfl,-,-⟩:=hv.s5
 clear hv hA hb2 hblk
 go_enter Tryz.func10,Tryz.ntmps10
 go_upto_region 1 with fail
 rw[<-hw1]
 clear hw1
 go_upto_block 0 with fail
 rw[<-hW2]
 clear hW2 hsz y1 y2 y3 y4 y5 HN
 go_wp2_with fail
 go_loopg [3,19] 5 (fun g v3 v19 wx=>wx=W2/\∃ i n:Nat,i+g=5/\v19=.int .i64 (i:Int)/\v3=.int .i64 (n:Int)/\n<=i*1000000/\Hid ((∀ j l,j < i->p.lists[j]?=some l->l.length<=100)/\n=((p.lists.take i).map sizeM).sum))
 case atStart=>exact⟨rfl,0,0,by omega,rfl,rfl,by omega,hide ⟨fun j l hj=>by omega,rfl⟩⟩
 case round =>
  obtain⟨rfl,i,n,hi,rfl,rfl,hn,HU⟩:=hrel
  by_cases hlt:i < 5
  ·obtain⟨l,hl⟩:∃ l,p.lists[i]?=some l:=⟨_,List.getElem?_eq_getElem (by rw[HLEN.out];exact hlt)⟩
   obtain⟨ss,pv,cv,c0,hs,he⟩:=HL.out i l hl
   have HS:=hide hs
   have HE:=hide he
   have HLI:=hide hl
   clear hs he hl
   by_cases h100:100 < ss.length
   ·clear HS HE HLI HU
    go_wp2_with fail
    go_ret
    exact⟨⟨false,rfl,fun h=>by cases h⟩,HB2.out⟩
   ·obtain⟨N,hN⟩:∃ N,N=ss.length:=⟨_,rfl⟩
    rw[<-hN] at c0 h100 HS
    have HNN:=hide hN
    clear hN
    go_wp2_with fail
    have HLT5:=hide hlt
    clear hlt
    generalize decide ((i:Int) < 5)=bi
    generalize decide ((100:Int) < (N:Int))=bn
    go_loopg [3,6] N (fun g2 v3 v6 wx=>wx=wr/\∃ k m:Nat,k+g2=N/\v6=.int .i64 (k:Int)/\v3=.int .i64 (m:Int)/\n<=m/\m<=n+k*10000/\Hid (m=n+sizeM ((ss.map bl).take k)))
    case atStart=>exact⟨rfl,0,n,by omega,rfl,rfl,by omega,by omega,hide rfl⟩
    case round =>
     obtain⟨rfl,k,m,hk,rfl,rfl,hnm,hm,HK⟩:=hrel
     by_cases hkN:k < N
     ·obtain⟨y,hy⟩:∃ y,ss[k]?=some y:=⟨_,List.getElem?_eq_getElem (by rw[<-HNN.out];exact hkN)⟩
      obtain⟨b,off,rfl,c1⟩:∃ b off,pv=some ⟨b,off,none⟩/\wr.cell? ⟨b,off+k,none⟩=some (.string y):=by
       obtain⟨p',cap',e,-,hc⟩:=HS.out
       injection e with e1 e2 e3
       obtain⟨b,off,e4,h⟩:=hc k y hy
       exact⟨b,off,e1.trans e4,h⟩
      have HK2:Hid (∀ mm,mm=min y.size 10000->m+mm=n+sizeM ((ss.map bl).take (k+1))):=hide (fun mm hmm=>by
       rw[sizeM_step (ss.map bl) k (bl y) (by rw[List.getElem?_map,hy];rfl),bl_len,hmm,HK.out]
       omega)
      clear hy HK
      by_cases hyz:y.size < 10000
      ·have HK3:=hide (HK2.out y.size (by omega))
       clear HK2
       go_wp2_with fail
       go_roundg (N - k - 1)
       case measure=>omega
       case rel=>exact⟨rfl,k+1,m+y.size,by omega,by first | rfl | simp,by first | rfl | (simp;done) | (simp;omega),by omega,by omega,HK3⟩
      ·by_cases hyw:10000 < y.size
       ·have HK3:=hide (HK2.out 10000 (by omega))
        clear HK2
        go_wp2_with fail
        go_roundg (N - k - 1)
        case measure=>omega
        case rel=>exact⟨rfl,k+1,m+10000,by omega,by first | rfl | simp,by first | rfl | (simp;done) | (simp;omega),by omega,by omega,HK3⟩
       ·have HK3:=hide (HK2.out y.size (by omega))
        clear HK2
        go_wp2_with fail
        go_roundg (N - k - 1)
        case measure=>omega
        case rel=>exact⟨rfl,k+1,m+y.size,by omega,by first | rfl | simp,by first | rfl | (simp;done) | (simp;omega),by omega,by omega,HK3⟩
     ·have HU2:Hid ((∀ j l,j < i+1->p.lists[j]?=some l->l.length<=100)/\m=((p.lists.take (i+1)).map sizeM).sum):=hide (by
       have hkk:(ss.map bl).take k=l:=by rw[<-HE.out];exact List.take_of_length_le (by rw[List.length_map,<-HNN.out];omega)
       refine⟨fun j l' hj hl'=>?_,?_⟩
       ·by_cases e:j=i
        ·subst e
         rw[HLI.out] at hl'
         cases hl'
         rw[<-HE.out,List.length_map,<-HNN.out]
         omega
        ·exact HU.out.1 j l' (by omega) hl'
       ·rw[sizeMs_step p.lists i l HLI.out,<-HU.out.2,HK.out,hkk])
      clear HK HU
      go_wp2_with fail
      go_roundg (5 - i - 1)
      case measure=>have:=HLT5.out;omega
      case rel=>exact⟨rfl,i+1,m,by have:=HLT5.out;omega,by first | rfl | simp,rfl,by omega,HU2⟩
  ·have HLT:Hid (n < 6000->light p):=hide (fun h=>by
    have ht:p.lists.take i=p.lists:=List.take_of_length_le (by rw[HLEN.out];omega)
    have h2:=HU.out.2
    rw[ht] at h2
    refine⟨fun l hl=>?_,?_⟩
    ·obtain⟨j,hj⟩:=List.mem_iff_getElem?.1 hl
     have hjl:=(List.getElem?_eq_some_iff.1 hj).1
     rw[HLEN.out] at hjl
     exact HU.out.1 j l (by omega) hj
    ·rw[<-sizeMs_eq p.lists (by omega)]
     omega)
   clear HU
   go_wp2_with fail
   go_ret
   exact⟨⟨_,rfl,fun h=>HLT.out (by have:=of_decide_eq_true h;omega)⟩,HB2.out⟩
end Go.Proofs.YtkiofbikkhhdfabGreatDoor
namespace Go.Proofs.YtkiofbikkhhdfabGreatDoor
open Go.RowKit
open Utf1 Pol8
abbrev pval (p:Pol) (v1 v2 v3 v4 v5:Value):Value:=.agg #[.int .i64 p.ep,v1,v2,v3,v4,v5,.int .i64 p.dp,.int .i64 p.nd,.int .i64 p.bt]
def RightC:Prop:=∀ (v1 v2 v3 v4 v5:Value) (p:Pol) (l1 l2 l3 l4 l5:List ByteArray) (w:World),PolV w v1 v2 v3 v4 v5 p l1 l2 l3 l4 l5->fits p ->
 Calls Tryz.prog 11 #[pval p v1 v2 v3 v4 v5] w fun e w'=>e=.returned (.bool (right p))/\Below w.heap.size w w'
def ElemC:Prop:=∀ (v1 v2 v3 v4 v5:Value) (p:Pol) (l1 l2 l3 l4 l5:List ByteArray) (x:ByteArray) (w:World),PolV w v1 v2 v3 v4 v5 p l1 l2 l3 l4 l5->fits p->x.size<=100000 ->
 Calls Tryz.prog 29 #[pval p v1 v2 v3 v4 v5,.string x] w fun e w'=>e=.returned (.bool (decide (bl x∈p.el)))/\Below w.heap.size w w'
def AttrC:Prop:=∀ (v1 v2 v3 v4 v5:Value) (p:Pol) (l1 l2 l3 l4 l5:List ByteArray) (x y:ByteArray) (w:World),PolV w v1 v2 v3 v4 v5 p l1 l2 l3 l4 l5->fits p->x.size<=100000->y.size<=100000 ->
 Calls Tryz.prog 120 #[pval p v1 v2 v3 v4 v5,.string x,.string y] w fun e w'=>e=.returned (.bool (attrB p (bl x) (bl y)))/\Below w.heap.size w w'
end Go.Proofs.YtkiofbikkhhdfabGreatDoor
