import Derived.Test.YtkiofbikkhhdfaaGreatDoorK07
import Derived.Deep.RegionWith
namespace Go.Proofs.YtkiofbikkhhdfaaGreatDoor.Dm
open Go.RowKit
open Utf1
theorem wpAny_to {P:Program}{md:Region.Mode}{ops:Array Oper}{Q:Exit->Act->World->Prop}{i:Nat}{oi:Oper}{v:Value}{fuel:Nat}{listed:Array Bool}{a a':Act}{w:World}(hi:ops[i]?=some oi)
  (hs:Region.noSelect ops=true)(hf:Region.free md ops listed i=true)(hr:(Region.ready md ops listed).contains i=true)
  (hQ:∀ c a w,Q (.panic c) (a.put oi.dst v) w->Q (.panic c) a w)(hy:Yields P ops oi v a)(ha:a.put oi.dst v=a')
  (h:wpAny P md ops Q fuel (listed.setIfInBounds i true) a' w):wpAny P md ops Q (fuel+1) listed a w :=
 wpAny_take hi hs hf hr hQ hy (ha ▸ h)
theorem own_put {w:World}{base:Nat}{e:TypeId}{size g n cap:Nat}{xs:List Value}(h:w.ownsRow base e size (.slice (some ⟨g,0,none⟩) n cap) n xs) (j:Nat) (u:Value):(w.setCell ⟨g,j,none⟩ u).ownsRow base e size (.slice (some ⟨g,0,none⟩) n cap) n (xs.set j u):=by
 obtain⟨h1,⟨e1,_⟩ | ⟨g',cap',cur,e1,h2,h3,h4,h5,h6,h7⟩⟩:=h
 ·cases e1
 ·cases e1
  refine⟨by rw[List.length_set];exact h1,.inr ⟨g,cap,cur.setIfInBounds j u,rfl,h2,tok_set h3 j u,h4,h5,by simpa using h6,?_⟩⟩
  rw[Array.toList_setIfInBounds,List.take_set,h7]
theorem infoNode:(Tryz.prog.info? 54).map (fun i=>(i.zero,i.size,i.bytes))=some (some (.agg #[.string ⟨#[]⟩,.slice none 0 0,.string ⟨#[]⟩,.slice none 0 0]),4,80):=by kernel_rfl
theorem four_new (w:World) (a b c d:Value) (t:TypeId):∀ (j:Nat) (u:Value),[a,b,c,d][j]?=some u->(w.alloc (.cells #[a,b,c,d] t)).cell? ((⟨w.heap.size,0,none⟩:Addr).add j)=some u:=by
 intro j u hj
 match j,hj with
 | 0,hj=>simp at hj;subst hj;simp[Addr.add]
 | 1,hj=>simp at hj;subst hj;simp[Addr.add]
 | 2,hj=>simp at hj;subst hj;simp[Addr.add]
 | 3,hj=>simp at hj;subst hj;simp[Addr.add]
 | _+4,hj=>simp at hj
theorem zero_one:∀ u∈[Value.string ⟨#[]⟩,.slice none 0 0,.string ⟨#[]⟩,.slice none 0 0],u.oneCell'=true:=by
 intro u hu
 simp at hu
 rcases hu with rfl | rfl | rfl | rfl <;> rfl
def PutEnd (w w':World) (B base go oc:Nat) (pa bv x y:Value) (init:List (Nd × Value × Value)) (nd:Nd) (av kv:Value) (k:List (Nd × Value × Value)) (nm tx:ByteArray) (ap:Option Addr) (am ac:Nat) (cp:Option Addr) (cm cc:Nat) (kv':Value):Prop :=
 BB w' B (.slice (some ⟨go,0,none⟩) (init.length+1) oc) pa bv x y/\w'.ownsRow base 54 4 (.slice (some ⟨go,0,none⟩) (init.length+1) oc) (init.length+1) (ndCells (init++[(nd,av,kv')])) /\
 w'.ownsRow base 54 4 kv' (k.length+1) (ndCells k++[.string nm,.slice ap am ac,.string tx,.slice cp cm cc])/\(kv'.ownBlock=kv.ownBlock\/kv'.ownBlock=some w.heap.size)/\Stays w w' (go :: blk kv)/\Below base w w'
theorem set_four (a:List Value) (z0 z1 z2 z3 v0 v1 v2 v3:Value):((((a++[z0,z1,z2,z3]).set a.length v0).set (a.length+1) v1).set (a.length+2) v2).set (a.length+3) v3=a++[v0,v1,v2,v3]:=by
 induction a with
 | nil=>rfl
 | cons c t ih=>simp
theorem set_kids (init:List (Nd × Value × Value)) (nd:Nd) (av kv kv':Value):(ndCells (init++[(nd,av,kv)])).set (init.length*4+3) kv'=ndCells (init++[(nd,av,kv')]):=by
 rw[ndCells_app,ndCells_app,<-ndCells_len,List.set_append_right _ _ (Nat.le_add_right _ _),Nat.add_sub_cancel_left]
 rfl
theorem put_facts {w w5:World}{B base go oc:Nat}{pa bv x y:Value}{init:List (Nd × Value × Value)}{nd:Nd}{av v':Value}{kp:Option Addr}{km kc:Nat}{k:List (Nd × Value × Value)}
  {n0:Nat}{xs0:List Value}(hro:w.ownsRow base 54 4 (.slice (some ⟨go,0,none⟩) (init.length+1) oc) (init.length+1) (ndCells (init++[(nd,av,.slice kp km kc)])))(hrk:w.ownsRow base 54 4 (.slice kp km kc) n0 xs0)(h:BB w B (.slice (some ⟨go,0,none⟩) (init.length+1) oc) pa bv x y)
  (hown:w5.ownsRow base 54 4 v' (k.length+1) (ndCells k++[.string ⟨#[]⟩,.slice none 0 0,.string ⟨#[]⟩,.slice none 0 0]))(hgr:w.grownBy w5 (Value.slice kp km kc).ownBlock)(hfr:v'.ownBlock=(Value.slice kp km kc).ownBlock\/v'.ownBlock=some w.heap.size)
  (hne:(Value.slice kp km kc).ownBlock≠some go)(hgo:go < w.heap.size) (nm tx:ByteArray) (ap:Option Addr) (am ac:Nat) (cp:Option Addr) (cm cc:Nat) :
  ∃ g2 c2,v'=.slice (some ⟨g2,0,none⟩) (k.length+1) c2/\(g2≠go /\
   w5.cell? ⟨g2,k.length*4,none⟩=some (.string ⟨#[]⟩)/\w5.cell? ⟨g2,k.length*4+1,none⟩=some (.slice none 0 0)/\w5.cell? ⟨g2,k.length*4+2,none⟩=some (.string ⟨#[]⟩)/\w5.cell? ⟨g2,k.length*4+3,none⟩=some (.slice none 0 0) /\
   w5.frozen? ⟨g2,k.length*4,none⟩=false/\w5.frozen? ⟨g2,k.length*4+1,none⟩=false/\w5.frozen? ⟨g2,k.length*4+2,none⟩=false/\w5.frozen? ⟨g2,k.length*4+3,none⟩=false /\
   w5.cell? ⟨go,init.length*4+3,none⟩=some (.slice kp km kc)/\w5.frozen? ⟨go,init.length*4+3,none⟩=false /\
   PutEnd w (((((w5.setCell ⟨g2,k.length*4,none⟩ (.string nm)).setCell ⟨g2,k.length*4+1,none⟩ (.slice ap am ac)).setCell ⟨g2,k.length*4+2,none⟩ (.string tx)).setCell ⟨g2,k.length*4+3,none⟩ (.slice cp cm cc)).setCell ⟨go,init.length*4+3,none⟩ (.slice (some ⟨g2,0,none⟩) (k.length+1) c2)) B base go oc pa bv x y init nd av (.slice kp km kc) k nm tx ap am ac cp cm cc (.slice (some ⟨g2,0,none⟩) (k.length+1) c2) /\
   PutEnd w (((((w5.setCell ⟨go,init.length*4+3,none⟩ (.slice (some ⟨g2,0,none⟩) (k.length+1) c2)).setCell ⟨g2,k.length*4,none⟩ (.string nm)).setCell ⟨g2,k.length*4+1,none⟩ (.slice ap am ac)).setCell ⟨g2,k.length*4+2,none⟩ (.string tx)).setCell ⟨g2,k.length*4+3,none⟩ (.slice cp cm cc)) B base go oc pa bv x y init nd av (.slice kp km kc) k nm tx ap am ac cp cm cc (.slice (some ⟨g2,0,none⟩) (k.length+1) c2)):=by
 obtain⟨g2,c2,rfl,hcell⟩:=own_at hown (by omega)
 have hgg:g2≠go:=by
  rintro rfl
  rcases hfr with e | e
  ·exact hne e.symm
  ·have:g2=w.heap.size:=by simpa [Value.ownBlock] using e
   omega
 have hlen:=ndCells_len k
 have hat:∀ j,j < 4->w5.cell? ⟨g2,k.length*4+j,none⟩=[Value.string ⟨#[]⟩,.slice none 0 0,.string ⟨#[]⟩,.slice none 0 0][j]?:=by
  intro j hj
  rw[hcell _ (by omega),List.getElem?_append_right (by omega),hlen,Nat.add_sub_cancel_left]
 have hfrz:∀ (g:Nat) (n cap:Nat) (xs:List Value),w5.ownsRow base 54 4 (.slice (some ⟨g,0,none⟩) n cap) n xs->∀ j,w5.frozen? ⟨g,j,none⟩=false:=by
  intro g n cap xs ho j
  obtain⟨_,⟨e,_⟩ | ⟨g',cap',cur,e,_,hg,_⟩⟩:=ho
  ·cases e
  ·cases e
   exact tag_free hg j
 have hro5:w5.ownsRow base 54 4 (.slice (some ⟨go,0,none⟩) (init.length+1) oc) (init.length+1) (ndCells (init++[(nd,av,.slice kp km kc)])):=hro.kept hgr (.inr (fun e=>hne e.symm))
 have hBne:∀ (g n cap:Nat) (xs:List Value) (w:World),w.ownsRow base 54 4 (.slice (some ⟨g,0,none⟩) n cap) n xs->w.heap[B]?=some (.cells #[.slice (some ⟨go,0,none⟩) (init.length+1) oc,pa,bv,x,y] 79 (0,0))->g≠B:=by
  intro g n cap xs w ho hB e
  exact own_apart ho hB (by decide) (by rw[e];rfl)
 have hkB:(Value.slice kp km kc).ownBlock≠some B:=own_apart hrk h (by decide)
 have hB5:BB w5 B (.slice (some ⟨go,0,none⟩) (init.length+1) oc) pa bv x y:=(hgr.block _ (lt_of_block h) (fun e=>hkB e.symm)).trans h
 have n1:=hBne _ _ _ _ _ hro5 hB5
 have n2:=hBne _ _ _ _ _ hown hB5
 have o3:w5.cell? ⟨go,init.length*4+3,none⟩=some (.slice kp km kc):=by
  rw[hro5.cellAt (init.length*4+3) (by omega),ndCells_at _ init.length _ (by rw[List.getElem?_append_right (Nat.le_refl _),Nat.sub_self];rfl) 3 (by decide)]
  rfl
 have hog:(Value.slice (some ⟨go,0,none⟩) (init.length+1) oc).ownBlock≠some g2:=by
  intro e
  exact hgg (by simpa [Value.ownBlock] using e.symm)
 have hgo2:(Value.slice (some ⟨g2,0,none⟩) (k.length+1) c2).ownBlock≠some go:=by
  intro e
  exact hgg (by simpa [Value.ownBlock] using e)
 have hg2b:base<=g2:=(hown.lt g2 rfl).1
 have hgob:base<=go:=(hro.lt go rfl).1
 have hbel:Below base w w5:=(Below.refl base w).grown hgr (Nat.le_trans hgob (Nat.le_of_lt hgo)) (fun j hj=>(hrk.lt j hj).1)
 have hattr:∀ j∈go :: blk (.slice kp km kc),∀ cs fz,w.heap[j]?≠some (.cells cs 117 fz):=by
  intro j hj cs fz e
  rcases List.mem_cons.1 hj with rfl | hj
  ·exact own_apart hro e (by decide) rfl
  ·exact own_apart hrk e (by decide) (by unfold blk at hj;simpa using hj)
 have hout:∀ j,j < w.heap.size->j ∉ go :: blk (.slice kp km kc)->j≠go/\j≠g2/\w5.heap[j]?=w.heap[j]?:=by
  intro j hj hS
  have j1:j≠go:=fun e=>hS (by rw[e];exact List.mem_cons_self ..)
  have j2:(Value.slice kp km kc).ownBlock≠some j:=fun e=>hS (List.mem_cons_of_mem _ (by unfold blk;rw[e];simp))
  refine⟨j1,?_,hgr.block j hj (fun e=>j2 e.symm)⟩
  rintro rfl
  rcases hfr with e | e
  ·exact j2 e.symm
  ·have:j=w.heap.size:=by simpa [Value.ownBlock] using e
   omega
 refine⟨g2,c2,rfl,hgg,hat 0 (by decide),hat 1 (by decide),hat 2 (by decide),hat 3 (by decide),hfrz _ _ _ _ hown _,hfrz _ _ _ _ hown _,hfrz _ _ _ _ hown _,hfrz _ _ _ _ hown _,o3,hfrz _ _ _ _ hro5 _,?_,?_⟩
 ·refine⟨?_,?_,?_,hfr,⟨?_,?_,hattr⟩,?_⟩
  ·unfold BB
   rw[Below.heap_setCell _ _ _ _ (by simpa using Ne.symm n1),Below.heap_setCell _ _ _ _ (by simpa using Ne.symm n2),Below.heap_setCell _ _ _ _ (by simpa using Ne.symm n2),Below.heap_setCell _ _ _ _ (by simpa using Ne.symm n2),Below.heap_setCell _ _ _ _ (by simpa using Ne.symm n2)]
   exact hB5
  ·rw[<-set_kids init nd av (.slice kp km kc)]
   exact own_put (ownsRow_setCell_other (ownsRow_setCell_other (ownsRow_setCell_other (ownsRow_setCell_other hro5 (a:=⟨g2,k.length*4,none⟩) hog _) (a:=⟨g2,k.length*4+1,none⟩) hog _) (a:=⟨g2,k.length*4+2,none⟩) hog _) (a:=⟨g2,k.length*4+3,none⟩) hog _) _ _
  ·rw[<-set_four (ndCells k) (.string ⟨#[]⟩) (.slice none 0 0) (.string ⟨#[]⟩) (.slice none 0 0),hlen]
   exact ownsRow_setCell_other (own_put (own_put (own_put (own_put hown _ _) _ _) _ _) _ _) (a:=⟨go,init.length*4+3,none⟩) hgo2 _
  ·simpa using hgr.size
  ·intro j hj hS
   obtain⟨j1,j2,j3⟩:=hout j hj hS
   rw[Below.heap_setCell _ _ _ _ (by simpa using j1),Below.heap_setCell _ _ _ _ (by simpa using j2),Below.heap_setCell _ _ _ _ (by simpa using j2),Below.heap_setCell _ _ _ _ (by simpa using j2),Below.heap_setCell _ _ _ _ (by simpa using j2)]
   exact j3
  ·exact ((((hbel.setCell (p:=⟨g2,k.length*4,none⟩) hg2b _).setCell (p:=⟨g2,k.length*4+1,none⟩) hg2b _).setCell (p:=⟨g2,k.length*4+2,none⟩) hg2b _).setCell (p:=⟨g2,k.length*4+3,none⟩) hg2b _).setCell (p:=⟨go,init.length*4+3,none⟩) hgob _
 ·refine⟨?_,?_,?_,hfr,⟨?_,?_,hattr⟩,?_⟩
  ·unfold BB
   rw[Below.heap_setCell _ _ _ _ (by simpa using Ne.symm n2),Below.heap_setCell _ _ _ _ (by simpa using Ne.symm n2),Below.heap_setCell _ _ _ _ (by simpa using Ne.symm n2),Below.heap_setCell _ _ _ _ (by simpa using Ne.symm n2),Below.heap_setCell _ _ _ _ (by simpa using Ne.symm n1)]
   exact hB5
  ·rw[<-set_kids init nd av (.slice kp km kc)]
   exact ownsRow_setCell_other (ownsRow_setCell_other (ownsRow_setCell_other (ownsRow_setCell_other (own_put hro5 _ _) (a:=⟨g2,k.length*4,none⟩) hog _) (a:=⟨g2,k.length*4+1,none⟩) hog _) (a:=⟨g2,k.length*4+2,none⟩) hog _) (a:=⟨g2,k.length*4+3,none⟩) hog _
  ·rw[<-set_four (ndCells k) (.string ⟨#[]⟩) (.slice none 0 0) (.string ⟨#[]⟩) (.slice none 0 0),hlen]
   exact own_put (own_put (own_put (own_put (ownsRow_setCell_other hown (a:=⟨go,init.length*4+3,none⟩) hgo2 _) _ _) _ _) _ _) _ _
  ·simpa using hgr.size
  ·intro j hj hS
   obtain⟨j1,j2,j3⟩:=hout j hj hS
   rw[Below.heap_setCell _ _ _ _ (by simpa using j2),Below.heap_setCell _ _ _ _ (by simpa using j2),Below.heap_setCell _ _ _ _ (by simpa using j2),Below.heap_setCell _ _ _ _ (by simpa using j2),Below.heap_setCell _ _ _ _ (by simpa using j1)]
   exact j3
  ·exact ((((hbel.setCell (p:=⟨go,init.length*4+3,none⟩) hgob _).setCell (p:=⟨g2,k.length*4,none⟩) hg2b _).setCell (p:=⟨g2,k.length*4+1,none⟩) hg2b _).setCell (p:=⟨g2,k.length*4+2,none⟩) hg2b _).setCell (p:=⟨g2,k.length*4+3,none⟩) hg2b _
set_option maxRecDepth 100000 in
set_option maxHeartbeats 16000000 in
theorem put_any (w:World) (B base go oc:Nat) (pa bv x y:Value) (init:List (Nd × Value × Value)) (nd:Nd) (av:Value) (kp:Option Addr) (km kc:Nat) (k:List (Nd × Value × Value)) (nm tx:ByteArray) (ap:Option Addr) (am ac:Nat) (cp:Option Addr) (cm cc:Nat)
  (h:BB w B (.slice (some ⟨go,0,none⟩) (init.length+1) oc) pa bv x y)(hro:w.ownsRow base 54 4 (.slice (some ⟨go,0,none⟩) (init.length+1) oc) (init.length+1) (ndCells (init++[(nd,av,.slice kp km kc)])))
  (hrk:w.ownsRow base 54 4 (.slice kp km kc) k.length (ndCells k))(hne:(Value.slice kp km kc).ownBlock≠some go)(hk:k.length<=100000)(hil:init.length<=100000)(hbB:base<=B)(hbw:base<=w.heap.size) :
  Calls Tryz.prog 111 #[.pointer (some ⟨B,0,none⟩),.agg #[.string nm,.slice ap am ac,.string tx,.slice cp cm cc]] w fun e w'=>e=.returned (.tuple #[])/\∃ kv',BB w' B (.slice (some ⟨go,0,none⟩) (init.length+1) oc) pa bv x y /\
   w'.ownsRow base 54 4 (.slice (some ⟨go,0,none⟩) (init.length+1) oc) (init.length+1) (ndCells (init++[(nd,av,kv')]))/\w'.ownsRow base 54 4 kv' (k.length+1) (ndCells k++[.string nm,.slice ap am ac,.string tx,.slice cp cm cc]) /\
   (kv'.ownBlock=(Value.slice kp km kc).ownBlock\/∃ g,kv'.ownBlock=some g/\w.heap.size<=g)/\Stays w w' (go :: blk (.slice kp km kc))/\Below base w w':=by
 have hBl:B < w.heap.size:=lt_of_block h
 have hgl:go < w.heap.size:=(own_lt hro go (by simp[blk,Value.ownBlock])).2
 have hkm:km=k.length:=by
  obtain⟨_,_,e⟩:=own_len hrk
  injection e
 subst hkm
 obtain⟨w1,hw1⟩:∃ w1,w1=w.alloc (.cells #[.string nm,.slice ap am ac,.string tx,.slice cp cm cc] 54):=⟨_,rfl⟩
 have hb1:Below w.heap.size w w1:=by
  rw[hw1]
  exact (Below.refl _ _).alloc (Nat.le_refl _) _
 have b0:w1.cell? ⟨B,0,none⟩=some (.slice (some ⟨go,0,none⟩) (init.length+1) oc):=cell_keep (tag_cell h 0 _ rfl) hb1
 have n0:w1.cell? ⟨w.heap.size,0,none⟩=some (.string nm):=by rw[hw1];simp
 have n1:w1.cell? ⟨w.heap.size,1,none⟩=some (.slice ap am ac):=by rw[hw1];simp
 have n2:w1.cell? ⟨w.heap.size,2,none⟩=some (.string tx):=by rw[hw1];simp
 have n3:w1.cell? ⟨w.heap.size,3,none⟩=some (.slice cp cm cc):=by rw[hw1];simp
 have hro1:=own_below hro hb1
 have hrk1:=own_below hrk hb1
 have h1:BB w1 B (.slice (some ⟨go,0,none⟩) (init.length+1) oc) pa bv x y:=(hb1.block _ hBl).trans h
 have o3:w1.cell? ⟨go,init.length*4+3,none⟩=some (.slice kp k.length kc):=by
  rw[hro1.cellAt (init.length*4+3) (by omega),ndCells_at _ init.length _ (by rw[List.getElem?_append_right (Nat.le_refl _),Nat.sub_self];rfl) 3 (by decide)]
  rfl
 have HS1:Hid (Below w.heap.size w w1/\w1.heap.size=w.heap.size+1):=hide ⟨hb1,by rw[hw1];simp⟩
 have HR:=hide (And.intro hro1 (And.intro hrk1 h1))
 clear h hro hrk hb1 hro1 hrk1 h1
 go_enter Tryz.func111,Tryz.ntmps111
 go_wp2_with fail
 rw[<-hw1]
 clear hw1
 go_quiet (fail)
 go_wp2_with fail
 obtain⟨i0,hi,hz0,hz1,hz2⟩:=info_parts infoNode
 obtain⟨wd,hwd⟩:∃ wd,wd=(w1.drewN nq).drew:=⟨_,rfl⟩
 have o3:wd.cell? ⟨go,init.length*4+3,none⟩=some (.slice kp k.length kc):=by rw[hwd];exact o3
 have n0:wd.cell? ⟨w.heap.size,0,none⟩=some (.string nm):=by rw[hwd];exact n0
 have n1:wd.cell? ⟨w.heap.size,1,none⟩=some (.slice ap am ac):=by rw[hwd];exact n1
 have n2:wd.cell? ⟨w.heap.size,2,none⟩=some (.string tx):=by rw[hwd];exact n2
 have n3:wd.cell? ⟨w.heap.size,3,none⟩=some (.slice cp cm cc):=by rw[hwd];exact n3
 have HSD:Hid (Below w.heap.size w wd/\wd.heap.size=w.heap.size+1):=hide (by
  rw[hwd]
  exact⟨bel2 (bel2 HS1.out.1 (bel_drewN w1 nq)) (bel_one _),HS1.out.2⟩)
 obtain⟨wz,hwz⟩:∃ wz,wz=wd.alloc (.cells #[.string ⟨#[]⟩,.slice none 0 0,.string ⟨#[]⟩,.slice none 0 0] 54):=⟨_,rfl⟩
 have hbz:Below wd.heap.size wd wz:=by
  rw[hwz]
  exact (Below.refl _ _).alloc (Nat.le_refl _) _
 have o3z:=cell_keep o3 hbz
 have n0z:=cell_keep n0 hbz
 have n1z:=cell_keep n1 hbz
 have n2z:=cell_keep n2 hbz
 have n3z:=cell_keep n3 hbz
 have HRZ:Hid (_/\_/\BB wz B (.slice (some ⟨go,0,none⟩) (init.length+1) oc) pa bv x y):=hide (by
  have hd:=HR.out
  have hbd:Below w1.heap.size w1 wd:=by
   rw[hwd]
   exact bel2 (bel_drewN w1 nq) (bel_one _)
  exact⟨own_below (own_below hd.1 hbd) hbz,own_below (own_below hd.2.1 hbd) hbz,(hbz.block _ (by have:=HSD.out.2;omega)).trans ((hbd.block _ (by have:=HS1.out.2;omega)).trans hd.2.2)⟩)
 have HNZ:=hide (four_new wd (.string ⟨#[]⟩) (.slice none 0 0) (.string ⟨#[]⟩) (.slice none 0 0) 54)
 rw[<-hwz] at HNZ
 have HSZ:Hid (base<=wz.heap.size/\go < wz.heap.size):=hide (by
  have h1:=HSD.out.2
  have h2:=hbz.size
  omega)
 have HEND:Hid (∀ (w':World) (kv':Value),PutEnd wz w' B base go oc pa bv x y init nd av (.slice kp k.length kc) k nm tx ap am ac cp cm cc kv'->∃ kv',BB w' B (.slice (some ⟨go,0,none⟩) (init.length+1) oc) pa bv x y /\
   w'.ownsRow base 54 4 (.slice (some ⟨go,0,none⟩) (init.length+1) oc) (init.length+1) (ndCells (init++[(nd,av,kv')]))/\w'.ownsRow base 54 4 kv' (k.length+1) (ndCells k++[.string nm,.slice ap am ac,.string tx,.slice cp cm cc]) /\
   (kv'.ownBlock=(Value.slice kp k.length kc).ownBlock\/∃ g,kv'.ownBlock=some g/\w.heap.size<=g)/\Stays w w' (go :: blk (.slice kp k.length kc))/\Below base w w'):=hide (by
  intro w' kv' hp
  obtain⟨p1,p2,p3,p4,p5,p6⟩:=hp
  have hwz2:Below w.heap.size w wz:=bel2 HSD.out.1 hbz
  refine⟨kv',p1,p2,p3,p4.imp id (fun e=>⟨_,e,hwz2.size⟩),⟨Nat.le_trans hwz2.size p5.size,fun k hk hS=>(p5.block k (Nat.lt_of_lt_of_le hk hwz2.size) hS).trans (hwz2.block k hk),fun k hk cs fz e=>?_⟩,(hwz2.mono hbw).trans p6⟩
  refine p5.attr k hk cs fz ?_
  rw[hwz2.block k (Array.getElem?_eq_some_iff.1 e).1]
  exact e)
 have HWZ:=hide hwz
 clear hwz hbz HR HS1 HSD
 refine wp_region_any (by kernel_rfl) ?_
 try (change wpAny _ _ _ _ _ _ _ (World.drew _))
 rw[<-hwd]
 clear hwd
 refine wpAny_to (i:=0) (v:=.pointer (some ⟨go,init.length*4,none⟩)) (a':=?ax0q1) rfl (by kernel_rfl) (by kernel_rfl) (by kernel_rfl) (fun _ _ _ h=>h) (Or.inl ⟨by rfl,?yi⟩) ?ha ?_
 case yi=>intro w;go_simp;try omega
 case ha=>go_simp;exact rfl
 refine wpAny_to (i:=1) (v:=.pointer (some ⟨go,init.length*4,none⟩)) (a':=?ax1q2) rfl (by kernel_rfl) (by kernel_rfl) (by kernel_rfl) (fun _ _ _ h=>h) (Or.inl ⟨by rfl,?yi⟩) ?ha ?_
 case yi=>intro w;go_simp;try omega
 case ha=>go_simp;exact rfl
 refine wpAny_to (i:=2) (v:=.pointer (some ⟨go,init.length*4+3,none⟩)) (a':=?ax2q3) rfl (by kernel_rfl) (by kernel_rfl) (by kernel_rfl) (fun _ _ _ h=>h) (Or.inl ⟨by rfl,?yi⟩) ?ha ?_
 case yi=>intro w;go_simp;try omega
 case ha=>go_simp;exact rfl
 refine wpAny_ready (rs:=[3,4,6]) (by kernel_rfl) (by simp) ?_
 refine AllReady.cons rfl (fun K hK=>?_) (AllReady.cons rfl (fun K hK=>?_) (AllReady.cons rfl (fun K hK=>?_) AllReady.nil))
 ·go_simp
  go_wp2_with fail
  refine wpAny_to (i:=5) (v:=.int .i64 (k.length:Int)) (a':=?ax5q4) rfl (by kernel_rfl) (by kernel_rfl) (by kernel_rfl) (fun _ _ _ h=>h) (Or.inl ⟨by rfl,?yi⟩) ?ha ?_
  case yi=>intro w;go_simp;try omega
  case ha=>go_simp;exact rfl
  refine wpAny_ready (rs:=[4,6]) (by kernel_rfl) (by simp) ?_
  refine AllReady.cons rfl (fun K hK=>?_) (AllReady.cons rfl (fun K hK=>?_) AllReady.nil)
  ·go_simp
   go_wp2_with fail
   refine wpAny_ready (rs:=[6]) (by kernel_rfl) (by simp) ?_
   refine AllReady.cons rfl (fun K hK=>?_) AllReady.nil
   go_simp
   go_wp2_with fail
   rw[<-HWZ.out]
   refine wpAny_ready (rs:=[7]) (by kernel_rfl) (by simp) ?_
   refine AllReady.cons rfl (fun K hK=>?_) AllReady.nil
   rw[if_pos (by rfl)]
   refine wp_append_new (.tmp 19) (.tmp 22) 32 rfl base 54 i0 _ 4 80 Tryz.underlying32 hi hz0 hz1 hz2 rfl (by decide) (.slice kp k.length kc) k.length (ndCells k) rfl HRZ.out.2.1 ⟨wd.heap.size,0,none⟩ 1 1 [.string ⟨#[]⟩,.slice none 0 0,.string ⟨#[]⟩,.slice none 0 0] rfl rfl HNZ.out zero_one (by unfold maxLen;omega) (by omega) (by have:=HSZ.out;omega) (by decide) ?_
   intro v' w5 hown5 hgr5 hfr5
   obtain⟨g2,c2,rfl,HP⟩:=put_facts HRZ.out.1 HRZ.out.2.1 HRZ.out.2.2 hown5 hgr5 hfr5 hne HSZ.out.2 nm tx ap am ac cp cm cc
   obtain⟨hgg,q0,q1,q2,q3,r0,r1,r2,r3,q4,r4,hfa,hfb⟩:=HP
   have HFA:=hide hfa
   have HFB:=hide hfb
   have hgg2:go≠g2:=Ne.symm hgg
   clear hown5 hgr5 hfr5 hfa hfb
   refine hK _ _ ?_
   clear hK K
   refine wpAny_to (i:=8) (v:=.pointer (some ⟨g2,k.length*4,none⟩)) (a':=?ax8q5) rfl (by kernel_rfl) (by kernel_rfl) (by kernel_rfl) (fun _ _ _ h=>h) (Or.inl ⟨by rfl,?yi⟩) ?ha ?_
   case yi=>intro w;go_simp;try omega
   case ha=>go_simp;exact rfl
   refine wpAny_to (i:=10) (v:=.pointer (some ⟨go,init.length*4,none⟩)) (a':=?ax10q6) rfl (by kernel_rfl) (by kernel_rfl) (by kernel_rfl) (fun _ _ _ h=>h) (Or.inl ⟨by rfl,?yi⟩) ?ha ?_
   case yi=>intro w;go_simp;try omega
   case ha=>go_simp;exact rfl
   refine wpAny_to (i:=11) (v:=.pointer (some ⟨go,init.length*4+3,none⟩)) (a':=?ax11q7) rfl (by kernel_rfl) (by kernel_rfl) (by kernel_rfl) (fun _ _ _ h=>h) (Or.inl ⟨by rfl,?yi⟩) ?ha ?_
   case yi=>intro w;go_simp;try omega
   case ha=>go_simp;exact rfl
   refine wpAny_ready (rs:=[9,12]) (by kernel_rfl) (by simp) ?_
   refine AllReady.cons rfl (fun K hK=>?_) (AllReady.cons rfl (fun K hK=>?_) AllReady.nil)
   ·go_simp
    go_wp2_with fail
    refine wpAny_ready (rs:=[12]) (by kernel_rfl) (by simp) ?_
    refine AllReady.cons rfl (fun K hK=>?_) AllReady.nil
    go_simp
    go_wp2_with fail
    refine wpAny_done (by kernel_rfl) ?_ _
    go_wp2_with fail
    go_end0
    exact⟨rfl,HEND.out _ _ HFA.out⟩
   ·go_simp
    go_wp2_with fail
    refine wpAny_ready (rs:=[9]) (by kernel_rfl) (by simp) ?_
    refine AllReady.cons rfl (fun K hK=>?_) AllReady.nil
    go_simp
    go_wp2_with fail
    refine wpAny_done (by kernel_rfl) ?_ _
    go_wp2_with fail
    go_end0
    exact⟨rfl,HEND.out _ _ HFB.out⟩
  ·go_simp
   go_wp2_with fail
   rw[<-HWZ.out]
   refine wpAny_ready (rs:=[4]) (by kernel_rfl) (by simp) ?_
   refine AllReady.cons rfl (fun K hK=>?_) AllReady.nil
   go_simp
   go_wp2_with fail
   refine wpAny_ready (rs:=[7]) (by kernel_rfl) (by simp) ?_
   refine AllReady.cons rfl (fun K hK=>?_) AllReady.nil
   rw[if_pos (by rfl)]
   refine wp_append_new (.tmp 19) (.tmp 22) 32 rfl base 54 i0 _ 4 80 Tryz.underlying32 hi hz0 hz1 hz2 rfl (by decide) (.slice kp k.length kc) k.length (ndCells k) rfl HRZ.out.2.1 ⟨wd.heap.size,0,none⟩ 1 1 [.string ⟨#[]⟩,.slice none 0 0,.string ⟨#[]⟩,.slice none 0 0] rfl rfl HNZ.out zero_one (by unfold maxLen;omega) (by omega) (by have:=HSZ.out;omega) (by decide) ?_
   intro v' w5 hown5 hgr5 hfr5
   obtain⟨g2,c2,rfl,HP⟩:=put_facts HRZ.out.1 HRZ.out.2.1 HRZ.out.2.2 hown5 hgr5 hfr5 hne HSZ.out.2 nm tx ap am ac cp cm cc
   obtain⟨hgg,q0,q1,q2,q3,r0,r1,r2,r3,q4,r4,hfa,hfb⟩:=HP
   have HFA:=hide hfa
   have HFB:=hide hfb
   have hgg2:go≠g2:=Ne.symm hgg
   clear hown5 hgr5 hfr5 hfa hfb
   refine hK _ _ ?_
   clear hK K
   refine wpAny_to (i:=8) (v:=.pointer (some ⟨g2,k.length*4,none⟩)) (a':=?ax8q8) rfl (by kernel_rfl) (by kernel_rfl) (by kernel_rfl) (fun _ _ _ h=>h) (Or.inl ⟨by rfl,?yi⟩) ?ha ?_
   case yi=>intro w;go_simp;try omega
   case ha=>go_simp;exact rfl
   refine wpAny_to (i:=10) (v:=.pointer (some ⟨go,init.length*4,none⟩)) (a':=?ax10q9) rfl (by kernel_rfl) (by kernel_rfl) (by kernel_rfl) (fun _ _ _ h=>h) (Or.inl ⟨by rfl,?yi⟩) ?ha ?_
   case yi=>intro w;go_simp;try omega
   case ha=>go_simp;exact rfl
   refine wpAny_to (i:=11) (v:=.pointer (some ⟨go,init.length*4+3,none⟩)) (a':=?ax11q10) rfl (by kernel_rfl) (by kernel_rfl) (by kernel_rfl) (fun _ _ _ h=>h) (Or.inl ⟨by rfl,?yi⟩) ?ha ?_
   case yi=>intro w;go_simp;try omega
   case ha=>go_simp;exact rfl
   refine wpAny_ready (rs:=[9,12]) (by kernel_rfl) (by simp) ?_
   refine AllReady.cons rfl (fun K hK=>?_) (AllReady.cons rfl (fun K hK=>?_) AllReady.nil)
   ·go_simp
    go_wp2_with fail
    refine wpAny_ready (rs:=[12]) (by kernel_rfl) (by simp) ?_
    refine AllReady.cons rfl (fun K hK=>?_) AllReady.nil
    go_simp
    go_wp2_with fail
    refine wpAny_done (by kernel_rfl) ?_ _
    go_wp2_with fail
    go_end0
    exact⟨rfl,HEND.out _ _ HFA.out⟩
   ·go_simp
    go_wp2_with fail
    refine wpAny_ready (rs:=[9]) (by kernel_rfl) (by simp) ?_
    refine AllReady.cons rfl (fun K hK=>?_) AllReady.nil
    go_simp
    go_wp2_with fail
    refine wpAny_done (by kernel_rfl) ?_ _
    go_wp2_with fail
    go_end0
    exact⟨rfl,HEND.out _ _ HFB.out⟩
 ·go_simp
  go_wp2_with fail
  refine wpAny_ready (rs:=[3,6]) (by kernel_rfl) (by simp) ?_
  refine AllReady.cons rfl (fun K hK=>?_) (AllReady.cons rfl (fun K hK=>?_) AllReady.nil)
  ·go_simp
   go_wp2_with fail
   refine wpAny_to (i:=5) (v:=.int .i64 (k.length:Int)) (a':=?ax5q11) rfl (by kernel_rfl) (by kernel_rfl) (by kernel_rfl) (fun _ _ _ h=>h) (Or.inl ⟨by rfl,?yi⟩) ?ha ?_
   case yi=>intro w;go_simp;try omega
   case ha=>go_simp;exact rfl
   refine wpAny_ready (rs:=[6]) (by kernel_rfl) (by simp) ?_
   refine AllReady.cons rfl (fun K hK=>?_) AllReady.nil
   go_simp
   go_wp2_with fail
   rw[<-HWZ.out]
   refine wpAny_ready (rs:=[7]) (by kernel_rfl) (by simp) ?_
   refine AllReady.cons rfl (fun K hK=>?_) AllReady.nil
   rw[if_pos (by rfl)]
   refine wp_append_new (.tmp 19) (.tmp 22) 32 rfl base 54 i0 _ 4 80 Tryz.underlying32 hi hz0 hz1 hz2 rfl (by decide) (.slice kp k.length kc) k.length (ndCells k) rfl HRZ.out.2.1 ⟨wd.heap.size,0,none⟩ 1 1 [.string ⟨#[]⟩,.slice none 0 0,.string ⟨#[]⟩,.slice none 0 0] rfl rfl HNZ.out zero_one (by unfold maxLen;omega) (by omega) (by have:=HSZ.out;omega) (by decide) ?_
   intro v' w5 hown5 hgr5 hfr5
   obtain⟨g2,c2,rfl,HP⟩:=put_facts HRZ.out.1 HRZ.out.2.1 HRZ.out.2.2 hown5 hgr5 hfr5 hne HSZ.out.2 nm tx ap am ac cp cm cc
   obtain⟨hgg,q0,q1,q2,q3,r0,r1,r2,r3,q4,r4,hfa,hfb⟩:=HP
   have HFA:=hide hfa
   have HFB:=hide hfb
   have hgg2:go≠g2:=Ne.symm hgg
   clear hown5 hgr5 hfr5 hfa hfb
   refine hK _ _ ?_
   clear hK K
   refine wpAny_to (i:=8) (v:=.pointer (some ⟨g2,k.length*4,none⟩)) (a':=?ax8q12) rfl (by kernel_rfl) (by kernel_rfl) (by kernel_rfl) (fun _ _ _ h=>h) (Or.inl ⟨by rfl,?yi⟩) ?ha ?_
   case yi=>intro w;go_simp;try omega
   case ha=>go_simp;exact rfl
   refine wpAny_to (i:=10) (v:=.pointer (some ⟨go,init.length*4,none⟩)) (a':=?ax10q13) rfl (by kernel_rfl) (by kernel_rfl) (by kernel_rfl) (fun _ _ _ h=>h) (Or.inl ⟨by rfl,?yi⟩) ?ha ?_
   case yi=>intro w;go_simp;try omega
   case ha=>go_simp;exact rfl
   refine wpAny_to (i:=11) (v:=.pointer (some ⟨go,init.length*4+3,none⟩)) (a':=?ax11q14) rfl (by kernel_rfl) (by kernel_rfl) (by kernel_rfl) (fun _ _ _ h=>h) (Or.inl ⟨by rfl,?yi⟩) ?ha ?_
   case yi=>intro w;go_simp;try omega
   case ha=>go_simp;exact rfl
   refine wpAny_ready (rs:=[9,12]) (by kernel_rfl) (by simp) ?_
   refine AllReady.cons rfl (fun K hK=>?_) (AllReady.cons rfl (fun K hK=>?_) AllReady.nil)
   ·go_simp
    go_wp2_with fail
    refine wpAny_ready (rs:=[12]) (by kernel_rfl) (by simp) ?_
    refine AllReady.cons rfl (fun K hK=>?_) AllReady.nil
    go_simp
    go_wp2_with fail
    refine wpAny_done (by kernel_rfl) ?_ _
    go_wp2_with fail
    go_end0
    exact⟨rfl,HEND.out _ _ HFA.out⟩
   ·go_simp
    go_wp2_with fail
    refine wpAny_ready (rs:=[9]) (by kernel_rfl) (by simp) ?_
    refine AllReady.cons rfl (fun K hK=>?_) AllReady.nil
    go_simp
    go_wp2_with fail
    refine wpAny_done (by kernel_rfl) ?_ _
    go_wp2_with fail
    go_end0
    exact⟨rfl,HEND.out _ _ HFB.out⟩
  ·go_simp
   go_wp2_with fail
   rw[<-HWZ.out]
   refine wpAny_ready (rs:=[3]) (by kernel_rfl) (by simp) ?_
   refine AllReady.cons rfl (fun K hK=>?_) AllReady.nil
   go_simp
   go_wp2_with fail
   refine wpAny_to (i:=5) (v:=.int .i64 (k.length:Int)) (a':=?ax5q15) rfl (by kernel_rfl) (by kernel_rfl) (by kernel_rfl) (fun _ _ _ h=>h) (Or.inl ⟨by rfl,?yi⟩) ?ha ?_
   case yi=>intro w;go_simp;try omega
   case ha=>go_simp;exact rfl
   refine wpAny_ready (rs:=[7]) (by kernel_rfl) (by simp) ?_
   refine AllReady.cons rfl (fun K hK=>?_) AllReady.nil
   rw[if_pos (by rfl)]
   refine wp_append_new (.tmp 19) (.tmp 22) 32 rfl base 54 i0 _ 4 80 Tryz.underlying32 hi hz0 hz1 hz2 rfl (by decide) (.slice kp k.length kc) k.length (ndCells k) rfl HRZ.out.2.1 ⟨wd.heap.size,0,none⟩ 1 1 [.string ⟨#[]⟩,.slice none 0 0,.string ⟨#[]⟩,.slice none 0 0] rfl rfl HNZ.out zero_one (by unfold maxLen;omega) (by omega) (by have:=HSZ.out;omega) (by decide) ?_
   intro v' w5 hown5 hgr5 hfr5
   obtain⟨g2,c2,rfl,HP⟩:=put_facts HRZ.out.1 HRZ.out.2.1 HRZ.out.2.2 hown5 hgr5 hfr5 hne HSZ.out.2 nm tx ap am ac cp cm cc
   obtain⟨hgg,q0,q1,q2,q3,r0,r1,r2,r3,q4,r4,hfa,hfb⟩:=HP
   have HFA:=hide hfa
   have HFB:=hide hfb
   have hgg2:go≠g2:=Ne.symm hgg
   clear hown5 hgr5 hfr5 hfa hfb
   refine hK _ _ ?_
   clear hK K
   refine wpAny_to (i:=8) (v:=.pointer (some ⟨g2,k.length*4,none⟩)) (a':=?ax8q16) rfl (by kernel_rfl) (by kernel_rfl) (by kernel_rfl) (fun _ _ _ h=>h) (Or.inl ⟨by rfl,?yi⟩) ?ha ?_
   case yi=>intro w;go_simp;try omega
   case ha=>go_simp;exact rfl
   refine wpAny_to (i:=10) (v:=.pointer (some ⟨go,init.length*4,none⟩)) (a':=?ax10q17) rfl (by kernel_rfl) (by kernel_rfl) (by kernel_rfl) (fun _ _ _ h=>h) (Or.inl ⟨by rfl,?yi⟩) ?ha ?_
   case yi=>intro w;go_simp;try omega
   case ha=>go_simp;exact rfl
   refine wpAny_to (i:=11) (v:=.pointer (some ⟨go,init.length*4+3,none⟩)) (a':=?ax11q18) rfl (by kernel_rfl) (by kernel_rfl) (by kernel_rfl) (fun _ _ _ h=>h) (Or.inl ⟨by rfl,?yi⟩) ?ha ?_
   case yi=>intro w;go_simp;try omega
   case ha=>go_simp;exact rfl
   refine wpAny_ready (rs:=[9,12]) (by kernel_rfl) (by simp) ?_
   refine AllReady.cons rfl (fun K hK=>?_) (AllReady.cons rfl (fun K hK=>?_) AllReady.nil)
   ·go_simp
    go_wp2_with fail
    refine wpAny_ready (rs:=[12]) (by kernel_rfl) (by simp) ?_
    refine AllReady.cons rfl (fun K hK=>?_) AllReady.nil
    go_simp
    go_wp2_with fail
    refine wpAny_done (by kernel_rfl) ?_ _
    go_wp2_with fail
    go_end0
    exact⟨rfl,HEND.out _ _ HFA.out⟩
   ·go_simp
    go_wp2_with fail
    refine wpAny_ready (rs:=[9]) (by kernel_rfl) (by simp) ?_
    refine AllReady.cons rfl (fun K hK=>?_) AllReady.nil
    go_simp
    go_wp2_with fail
    refine wpAny_done (by kernel_rfl) ?_ _
    go_wp2_with fail
    go_end0
    exact⟨rfl,HEND.out _ _ HFB.out⟩
 ·go_simp
  go_wp2_with fail
  rw[<-HWZ.out]
  refine wpAny_ready (rs:=[3,4]) (by kernel_rfl) (by simp) ?_
  refine AllReady.cons rfl (fun K hK=>?_) (AllReady.cons rfl (fun K hK=>?_) AllReady.nil)
  ·go_simp
   go_wp2_with fail
   refine wpAny_to (i:=5) (v:=.int .i64 (k.length:Int)) (a':=?ax5q19) rfl (by kernel_rfl) (by kernel_rfl) (by kernel_rfl) (fun _ _ _ h=>h) (Or.inl ⟨by rfl,?yi⟩) ?ha ?_
   case yi=>intro w;go_simp;try omega
   case ha=>go_simp;exact rfl
   refine wpAny_ready (rs:=[4]) (by kernel_rfl) (by simp) ?_
   refine AllReady.cons rfl (fun K hK=>?_) AllReady.nil
   go_simp
   go_wp2_with fail
   refine wpAny_ready (rs:=[7]) (by kernel_rfl) (by simp) ?_
   refine AllReady.cons rfl (fun K hK=>?_) AllReady.nil
   rw[if_pos (by rfl)]
   refine wp_append_new (.tmp 19) (.tmp 22) 32 rfl base 54 i0 _ 4 80 Tryz.underlying32 hi hz0 hz1 hz2 rfl (by decide) (.slice kp k.length kc) k.length (ndCells k) rfl HRZ.out.2.1 ⟨wd.heap.size,0,none⟩ 1 1 [.string ⟨#[]⟩,.slice none 0 0,.string ⟨#[]⟩,.slice none 0 0] rfl rfl HNZ.out zero_one (by unfold maxLen;omega) (by omega) (by have:=HSZ.out;omega) (by decide) ?_
   intro v' w5 hown5 hgr5 hfr5
   obtain⟨g2,c2,rfl,HP⟩:=put_facts HRZ.out.1 HRZ.out.2.1 HRZ.out.2.2 hown5 hgr5 hfr5 hne HSZ.out.2 nm tx ap am ac cp cm cc
   obtain⟨hgg,q0,q1,q2,q3,r0,r1,r2,r3,q4,r4,hfa,hfb⟩:=HP
   have HFA:=hide hfa
   have HFB:=hide hfb
   have hgg2:go≠g2:=Ne.symm hgg
   clear hown5 hgr5 hfr5 hfa hfb
   refine hK _ _ ?_
   clear hK K
   refine wpAny_to (i:=8) (v:=.pointer (some ⟨g2,k.length*4,none⟩)) (a':=?ax8q20) rfl (by kernel_rfl) (by kernel_rfl) (by kernel_rfl) (fun _ _ _ h=>h) (Or.inl ⟨by rfl,?yi⟩) ?ha ?_
   case yi=>intro w;go_simp;try omega
   case ha=>go_simp;exact rfl
   refine wpAny_to (i:=10) (v:=.pointer (some ⟨go,init.length*4,none⟩)) (a':=?ax10q21) rfl (by kernel_rfl) (by kernel_rfl) (by kernel_rfl) (fun _ _ _ h=>h) (Or.inl ⟨by rfl,?yi⟩) ?ha ?_
   case yi=>intro w;go_simp;try omega
   case ha=>go_simp;exact rfl
   refine wpAny_to (i:=11) (v:=.pointer (some ⟨go,init.length*4+3,none⟩)) (a':=?ax11q22) rfl (by kernel_rfl) (by kernel_rfl) (by kernel_rfl) (fun _ _ _ h=>h) (Or.inl ⟨by rfl,?yi⟩) ?ha ?_
   case yi=>intro w;go_simp;try omega
   case ha=>go_simp;exact rfl
   refine wpAny_ready (rs:=[9,12]) (by kernel_rfl) (by simp) ?_
   refine AllReady.cons rfl (fun K hK=>?_) (AllReady.cons rfl (fun K hK=>?_) AllReady.nil)
   ·go_simp
    go_wp2_with fail
    refine wpAny_ready (rs:=[12]) (by kernel_rfl) (by simp) ?_
    refine AllReady.cons rfl (fun K hK=>?_) AllReady.nil
    go_simp
    go_wp2_with fail
    refine wpAny_done (by kernel_rfl) ?_ _
    go_wp2_with fail
    go_end0
    exact⟨rfl,HEND.out _ _ HFA.out⟩
   ·go_simp
    go_wp2_with fail
    refine wpAny_ready (rs:=[9]) (by kernel_rfl) (by simp) ?_
    refine AllReady.cons rfl (fun K hK=>?_) AllReady.nil
    go_simp
    go_wp2_with fail
    refine wpAny_done (by kernel_rfl) ?_ _
    go_wp2_with fail
    go_end0
    exact⟨rfl,HEND.out _ _ HFB.out⟩
  ·go_simp
   go_wp2_with fail
   refine wpAny_ready (rs:=[3]) (by kernel_rfl) (by simp) ?_
   refine AllReady.cons rfl (fun K hK=>?_) AllReady.nil
   go_simp
   go_wp2_with fail
   refine wpAny_to (i:=5) (v:=.int .i64 (k.length:Int)) (a':=?ax5q23) rfl (by kernel_rfl) (by kernel_rfl) (by kernel_rfl) (fun _ _ _ h=>h) (Or.inl ⟨by rfl,?yi⟩) ?ha ?_
   case yi=>intro w;go_simp;try omega
   case ha=>go_simp;exact rfl
   refine wpAny_ready (rs:=[7]) (by kernel_rfl) (by simp) ?_
   refine AllReady.cons rfl (fun K hK=>?_) AllReady.nil
   rw[if_pos (by rfl)]
   refine wp_append_new (.tmp 19) (.tmp 22) 32 rfl base 54 i0 _ 4 80 Tryz.underlying32 hi hz0 hz1 hz2 rfl (by decide) (.slice kp k.length kc) k.length (ndCells k) rfl HRZ.out.2.1 ⟨wd.heap.size,0,none⟩ 1 1 [.string ⟨#[]⟩,.slice none 0 0,.string ⟨#[]⟩,.slice none 0 0] rfl rfl HNZ.out zero_one (by unfold maxLen;omega) (by omega) (by have:=HSZ.out;omega) (by decide) ?_
   intro v' w5 hown5 hgr5 hfr5
   obtain⟨g2,c2,rfl,HP⟩:=put_facts HRZ.out.1 HRZ.out.2.1 HRZ.out.2.2 hown5 hgr5 hfr5 hne HSZ.out.2 nm tx ap am ac cp cm cc
   obtain⟨hgg,q0,q1,q2,q3,r0,r1,r2,r3,q4,r4,hfa,hfb⟩:=HP
   have HFA:=hide hfa
   have HFB:=hide hfb
   have hgg2:go≠g2:=Ne.symm hgg
   clear hown5 hgr5 hfr5 hfa hfb
   refine hK _ _ ?_
   clear hK K
   refine wpAny_to (i:=8) (v:=.pointer (some ⟨g2,k.length*4,none⟩)) (a':=?ax8q24) rfl (by kernel_rfl) (by kernel_rfl) (by kernel_rfl) (fun _ _ _ h=>h) (Or.inl ⟨by rfl,?yi⟩) ?ha ?_
   case yi=>intro w;go_simp;try omega
   case ha=>go_simp;exact rfl
   refine wpAny_to (i:=10) (v:=.pointer (some ⟨go,init.length*4,none⟩)) (a':=?ax10q25) rfl (by kernel_rfl) (by kernel_rfl) (by kernel_rfl) (fun _ _ _ h=>h) (Or.inl ⟨by rfl,?yi⟩) ?ha ?_
   case yi=>intro w;go_simp;try omega
   case ha=>go_simp;exact rfl
   refine wpAny_to (i:=11) (v:=.pointer (some ⟨go,init.length*4+3,none⟩)) (a':=?ax11q26) rfl (by kernel_rfl) (by kernel_rfl) (by kernel_rfl) (fun _ _ _ h=>h) (Or.inl ⟨by rfl,?yi⟩) ?ha ?_
   case yi=>intro w;go_simp;try omega
   case ha=>go_simp;exact rfl
   refine wpAny_ready (rs:=[9,12]) (by kernel_rfl) (by simp) ?_
   refine AllReady.cons rfl (fun K hK=>?_) (AllReady.cons rfl (fun K hK=>?_) AllReady.nil)
   ·go_simp
    go_wp2_with fail
    refine wpAny_ready (rs:=[12]) (by kernel_rfl) (by simp) ?_
    refine AllReady.cons rfl (fun K hK=>?_) AllReady.nil
    go_simp
    go_wp2_with fail
    refine wpAny_done (by kernel_rfl) ?_ _
    go_wp2_with fail
    go_end0
    exact⟨rfl,HEND.out _ _ HFA.out⟩
   ·go_simp
    go_wp2_with fail
    refine wpAny_ready (rs:=[9]) (by kernel_rfl) (by simp) ?_
    refine AllReady.cons rfl (fun K hK=>?_) AllReady.nil
    go_simp
    go_wp2_with fail
    refine wpAny_done (by kernel_rfl) ?_ _
    go_wp2_with fail
    go_end0
    exact⟨rfl,HEND.out _ _ HFB.out⟩
end Go.Proofs.YtkiofbikkhhdfaaGreatDoor.Dm
