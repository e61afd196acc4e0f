import Derived.Test.YtodfklpmbclgkaaGreatDoorBack09
import Derived.Deep.AppendLies
import Derived.Deep.RegionLaw
import Derived.BigRegion
import Derived.Laws.IdiomStrings
import Derived.Deep.QuietTactic
import Derived.BigQuiet
import Derived.Defers
import Derived.Recover
import Derived.Laws.Pointers
namespace Go.Proofs.YtodfklpmbclgkaaGreatDoor.Lx
open Go.RowKit
def zgc:Option Nat->Value
 | some n=>.tuple #[.int .i64 (n:Int),.bool true]
 | none=>.tuple #[.int .i64 0,.bool false]
theorem reckP_le (base most:Nat):∀ (l:List UInt8) (n m:Nat),n<=most->zdh base most n l=some m->m<=most
 | [],n,m,hn,h=>by simp only [zdh,Option.some.injEq] at h;omega
 | c::r,n,m,hn,h=>by
  simp only [zdh] at h
  split at h
  · cases h
  split at h
  · cases h
  exact reckP_le base most r _ m (by omega) h
theorem digV_lt (c:UInt8):digV c<=16:=by
 have:=zdu (fun c=>decide (digV c<=16)) (by decide +kernel) c
 exact of_decide_eq_true this
set_option maxHeartbeats 2000000 in
theorem reckon_8 (ds:List UInt8) (M:Nat) (hm:(M:Int)<=4294967295) (hl:(ds.length:Int)<=9223372036854775807) (w:World) :
 Calls Tryz.prog 129 #[S ds,.int .i64 8,.int .i64 M] w fun e w'=>e=.returned (zgc (zeo ds 8 M))∧w'=w:=by
 obtain ⟨R,hR⟩:∃ R,zeo ds 8 M=R:=⟨_,rfl⟩
 have HR0:Hid (ds.length=0->R=none):=fun h=>by rw [<- hR];unfold zeo;rw [if_pos (List.length_eq_zero_iff.1 h)]
 have HR1:Hid (0<ds.length->R=zdh 8 M 0 ds):=fun h=>by rw [<- hR];unfold zeo;rw [if_neg (fun h2=>by rw [h2] at h;simp at h)]
 rw [hR]
 clear hR
 go_enter Tryz.func129,Tryz.ntmps129
 go_wp2_with fail
 go_loop [8,13] (fun n i=>∃ k N:Nat,i=.int .i64 k∧n=.int .i64 N∧k<=ds.length∧(N:Int)<=M∧Hid (ds.length=0->N=0)∧Hid (0<ds.length->R=zdh 8 M N (ds.drop k))) (fun _ i=>ds.length - (intOf i).toNat)
 case atStart=>exact ⟨0,0,rfl,rfl,by omega,by omega,fun _=>rfl,HR1.out⟩
 case round =>
  obtain ⟨k,N,rfl,rfl,hk,hN,HN,HK⟩:=hrel
  by_cases hlt:k<ds.length
  · have hk' : (k:Int)<ds.length:=by omega
    have hcs:({ data:=ds.toArray } : ByteArray)[k]=ds[k]:=rfl
    have hv:=digV_lt ds[k]
    have HD:Hid (∀ w,Calls Tryz.prog 154 #[.int .u8 (ds[k].toNat:Int)] w fun e w'=>e=.returned (.int .i64 (digV ds[k]:Nat))∧w'=w):=fun w=>zma _ w
    have hs0:=HK.out (by omega)
    rw [List.drop_eq_getElem_cons hlt,zdh] at hs0
    generalize digV ds[k]=V at *
    have Hs:=hid hs0
    clear hs0
    by_cases hV:V<8
    rotate_left
    · have HA:Hid (R=none):=by show _=_;rw [Hs.out,if_pos (by omega)]
      have hV2:(8:Int)<=V:=by omega
      clear HK Hs HN
      go_wp2_with fail
      refine (HD.out _).mono ?_
      rintro e w1 ⟨rfl,rfl⟩
      go_wp2
      go_ret2
      exact ⟨by rw [HA.out];rfl,rfl⟩
    · have hV2:(V:Int)<8:=by omega
      by_cases hB:M<N*8+V
      · have HA:Hid (R=none):=by show _=_;rw [Hs.out,if_neg (by omega),if_pos hB]
        have hB2:(M:Int)<N*8+V:=by omega
        clear HK Hs HN hB
        go_wp2_with fail
        refine (HD.out _).mono ?_
        rintro e w1 ⟨rfl,rfl⟩
        go_wp2
        go_ret2
        exact ⟨by rw [HA.out];rfl,rfl⟩
      · have HA:Hid (R=zdh 8 M (N*8+V) (ds.drop (k+1))):=by show _=_;rw [Hs.out,if_neg (by omega),if_neg hB]
        have hB2:(N:Int)*8+V<=M:=by omega
        clear HK Hs hB
        go_wp2_with fail
        refine (HD.out _).mono ?_
        rintro e w1 ⟨rfl,rfl⟩
        go_wp2
        go_round
        case rel=>exact ⟨k+1,N*8+V,by go_num,by go_num,by omega,by omega,fun h=>by omega,fun _=>HA.out⟩
        case measure=>simp [intOf];omega
  · obtain rfl:k=ds.length:=by omega
    by_cases h0:ds.length=0
    · have HA:=hid (HR0.out h0)
      have HZ:=hid (HN.out h0)
      have h0' : decide (0<ds.length)=false:=decide_eq_false (by omega)
      clear HK
      go_wp2
      go_ret2
      exact ⟨by rw [HA.out];show Ending.returned (.tuple #[.int .i64 (N:Int),.bool false])=_;rw [HZ.out];rfl,rfl⟩
    · have HA:Hid (R=some N):=by
       have:=HK.out (by omega)
       rw [List.drop_length,zdh] at this
       exact this
      have h0' : decide (0<ds.length)=true:=decide_eq_true (by omega)
      clear HK
      go_wp2
      go_ret2
      exact ⟨by rw [HA.out];rfl,rfl⟩
set_option maxHeartbeats 2000000 in
theorem reckon_10 (ds:List UInt8) (M:Nat) (hm:(M:Int)<=4294967295) (hl:(ds.length:Int)<=9223372036854775807) (w:World) :
 Calls Tryz.prog 129 #[S ds,.int .i64 10,.int .i64 M] w fun e w'=>e=.returned (zgc (zeo ds 10 M))∧w'=w:=by
 obtain ⟨R,hR⟩:∃ R,zeo ds 10 M=R:=⟨_,rfl⟩
 have HR0:Hid (ds.length=0->R=none):=fun h=>by rw [<- hR];unfold zeo;rw [if_pos (List.length_eq_zero_iff.1 h)]
 have HR1:Hid (0<ds.length->R=zdh 10 M 0 ds):=fun h=>by rw [<- hR];unfold zeo;rw [if_neg (fun h2=>by rw [h2] at h;simp at h)]
 rw [hR]
 clear hR
 go_enter Tryz.func129,Tryz.ntmps129
 go_wp2_with fail
 go_loop [8,13] (fun n i=>∃ k N:Nat,i=.int .i64 k∧n=.int .i64 N∧k<=ds.length∧(N:Int)<=M∧Hid (ds.length=0->N=0)∧Hid (0<ds.length->R=zdh 10 M N (ds.drop k))) (fun _ i=>ds.length - (intOf i).toNat)
 case atStart=>exact ⟨0,0,rfl,rfl,by omega,by omega,fun _=>rfl,HR1.out⟩
 case round =>
  obtain ⟨k,N,rfl,rfl,hk,hN,HN,HK⟩:=hrel
  by_cases hlt:k<ds.length
  · have hk' : (k:Int)<ds.length:=by omega
    have hcs:({ data:=ds.toArray } : ByteArray)[k]=ds[k]:=rfl
    have hv:=digV_lt ds[k]
    have HD:Hid (∀ w,Calls Tryz.prog 154 #[.int .u8 (ds[k].toNat:Int)] w fun e w'=>e=.returned (.int .i64 (digV ds[k]:Nat))∧w'=w):=fun w=>zma _ w
    have hs0:=HK.out (by omega)
    rw [List.drop_eq_getElem_cons hlt,zdh] at hs0
    generalize digV ds[k]=V at *
    have Hs:=hid hs0
    clear hs0
    by_cases hV:V<10
    rotate_left
    · have HA:Hid (R=none):=by show _=_;rw [Hs.out,if_pos (by omega)]
      have hV2:(10:Int)<=V:=by omega
      clear HK Hs HN
      go_wp2_with fail
      refine (HD.out _).mono ?_
      rintro e w1 ⟨rfl,rfl⟩
      go_wp2
      go_ret2
      exact ⟨by rw [HA.out];rfl,rfl⟩
    · have hV2:(V:Int)<10:=by omega
      by_cases hB:M<N*10+V
      · have HA:Hid (R=none):=by show _=_;rw [Hs.out,if_neg (by omega),if_pos hB]
        have hB2:(M:Int)<N*10+V:=by omega
        clear HK Hs HN hB
        go_wp2_with fail
        refine (HD.out _).mono ?_
        rintro e w1 ⟨rfl,rfl⟩
        go_wp2
        go_ret2
        exact ⟨by rw [HA.out];rfl,rfl⟩
      · have HA:Hid (R=zdh 10 M (N*10+V) (ds.drop (k+1))):=by show _=_;rw [Hs.out,if_neg (by omega),if_neg hB]
        have hB2:(N:Int)*10+V<=M:=by omega
        clear HK Hs hB
        go_wp2_with fail
        refine (HD.out _).mono ?_
        rintro e w1 ⟨rfl,rfl⟩
        go_wp2
        go_round
        case rel=>exact ⟨k+1,N*10+V,by go_num,by go_num,by omega,by omega,fun h=>by omega,fun _=>HA.out⟩
        case measure=>simp [intOf];omega
  · obtain rfl:k=ds.length:=by omega
    by_cases h0:ds.length=0
    · have HA:=hid (HR0.out h0)
      have HZ:=hid (HN.out h0)
      have h0' : decide (0<ds.length)=false:=decide_eq_false (by omega)
      clear HK
      go_wp2
      go_ret2
      exact ⟨by rw [HA.out];show Ending.returned (.tuple #[.int .i64 (N:Int),.bool false])=_;rw [HZ.out];rfl,rfl⟩
    · have HA:Hid (R=some N):=by
       have:=HK.out (by omega)
       rw [List.drop_length,zdh] at this
       exact this
      have h0' : decide (0<ds.length)=true:=decide_eq_true (by omega)
      clear HK
      go_wp2
      go_ret2
      exact ⟨by rw [HA.out];rfl,rfl⟩
set_option maxHeartbeats 2000000 in
theorem reckon_16 (ds:List UInt8) (M:Nat) (hm:(M:Int)<=4294967295) (hl:(ds.length:Int)<=9223372036854775807) (w:World) :
 Calls Tryz.prog 129 #[S ds,.int .i64 16,.int .i64 M] w fun e w'=>e=.returned (zgc (zeo ds 16 M))∧w'=w:=by
 obtain ⟨R,hR⟩:∃ R,zeo ds 16 M=R:=⟨_,rfl⟩
 have HR0:Hid (ds.length=0->R=none):=fun h=>by rw [<- hR];unfold zeo;rw [if_pos (List.length_eq_zero_iff.1 h)]
 have HR1:Hid (0<ds.length->R=zdh 16 M 0 ds):=fun h=>by rw [<- hR];unfold zeo;rw [if_neg (fun h2=>by rw [h2] at h;simp at h)]
 rw [hR]
 clear hR
 go_enter Tryz.func129,Tryz.ntmps129
 go_wp2_with fail
 go_loop [8,13] (fun n i=>∃ k N:Nat,i=.int .i64 k∧n=.int .i64 N∧k<=ds.length∧(N:Int)<=M∧Hid (ds.length=0->N=0)∧Hid (0<ds.length->R=zdh 16 M N (ds.drop k))) (fun _ i=>ds.length - (intOf i).toNat)
 case atStart=>exact ⟨0,0,rfl,rfl,by omega,by omega,fun _=>rfl,HR1.out⟩
 case round =>
  obtain ⟨k,N,rfl,rfl,hk,hN,HN,HK⟩:=hrel
  by_cases hlt:k<ds.length
  · have hk' : (k:Int)<ds.length:=by omega
    have hcs:({ data:=ds.toArray } : ByteArray)[k]=ds[k]:=rfl
    have hv:=digV_lt ds[k]
    have HD:Hid (∀ w,Calls Tryz.prog 154 #[.int .u8 (ds[k].toNat:Int)] w fun e w'=>e=.returned (.int .i64 (digV ds[k]:Nat))∧w'=w):=fun w=>zma _ w
    have hs0:=HK.out (by omega)
    rw [List.drop_eq_getElem_cons hlt,zdh] at hs0
    generalize digV ds[k]=V at *
    have Hs:=hid hs0
    clear hs0
    by_cases hV:V<16
    rotate_left
    · have HA:Hid (R=none):=by show _=_;rw [Hs.out,if_pos (by omega)]
      have hV2:(16:Int)<=V:=by omega
      clear HK Hs HN
      go_wp2_with fail
      refine (HD.out _).mono ?_
      rintro e w1 ⟨rfl,rfl⟩
      go_wp2
      go_ret2
      exact ⟨by rw [HA.out];rfl,rfl⟩
    · have hV2:(V:Int)<16:=by omega
      by_cases hB:M<N*16+V
      · have HA:Hid (R=none):=by show _=_;rw [Hs.out,if_neg (by omega),if_pos hB]
        have hB2:(M:Int)<N*16+V:=by omega
        clear HK Hs HN hB
        go_wp2_with fail
        refine (HD.out _).mono ?_
        rintro e w1 ⟨rfl,rfl⟩
        go_wp2
        go_ret2
        exact ⟨by rw [HA.out];rfl,rfl⟩
      · have HA:Hid (R=zdh 16 M (N*16+V) (ds.drop (k+1))):=by show _=_;rw [Hs.out,if_neg (by omega),if_neg hB]
        have hB2:(N:Int)*16+V<=M:=by omega
        clear HK Hs hB
        go_wp2_with fail
        refine (HD.out _).mono ?_
        rintro e w1 ⟨rfl,rfl⟩
        go_wp2
        go_round
        case rel=>exact ⟨k+1,N*16+V,by go_num,by go_num,by omega,by omega,fun h=>by omega,fun _=>HA.out⟩
        case measure=>simp [intOf];omega
  · obtain rfl:k=ds.length:=by omega
    by_cases h0:ds.length=0
    · have HA:=hid (HR0.out h0)
      have HZ:=hid (HN.out h0)
      have h0' : decide (0<ds.length)=false:=decide_eq_false (by omega)
      clear HK
      go_wp2
      go_ret2
      exact ⟨by rw [HA.out];show Ending.returned (.tuple #[.int .i64 (N:Int),.bool false])=_;rw [HZ.out];rfl,rfl⟩
    · have HA:Hid (R=some N):=by
       have:=HK.out (by omega)
       rw [List.drop_length,zdh] at this
       exact this
      have h0' : decide (0<ds.length)=true:=decide_eq_true (by omega)
      clear HK
      go_wp2
      go_ret2
      exact ⟨by rw [HA.out];rfl,rfl⟩
theorem znh (ds:List UInt8) (base M:Nat) (hb:base=8∨base=10∨base=16) (hm:(M:Int)<=4294967295) (hl:(ds.length:Int)<=9223372036854775807) (w:World) :
 Calls Tryz.prog 129 #[S ds,.int .i64 base,.int .i64 M] w fun e w'=>e=.returned (zgc (zeo ds base M))∧w'=w:=by
 rcases hb with rfl|rfl|rfl
 · exact reckon_8 ds M hm hl w
 · exact reckon_10 ds M hm hl w
 · exact reckon_16 ds M hm hl w
def numAns:Option Int->Value
 | some n=>.tuple #[.int .i64 n,.bool true]
 | none=>.tuple #[.int .i64 0,.bool false]
theorem formP_base (r:List UInt8):(zdc r).2=8∨(zdc r).2=10∨(zdc r).2=16:=by
 unfold zdc;repeat' split
 all_goals simp
theorem formP_len (r:List UInt8):(zdc r).1.length<=r.length:=by
 unfold zdc;repeat' split
 all_goals simp
set_option maxHeartbeats 2000000 in
theorem zgk (t:List UInt8) (w:World) (h0:0<t.length) (h1:t.getD 0 0=45->1<t.length) (hl:(t.length:Int)<=9223372036854775807):Calls Tryz.prog 94 #[S t] w fun e w'=>e=.returned (numAns (numP t))∧w'=w:=by
 have e0:t.getD 0 0=t[0]:=getD_lt h0
 obtain ⟨c,hc⟩:∃ c,t[0]=c:=⟨_,rfl⟩
 have hb:=zjr c 45
 have hcc:({ data:=t.toArray } : ByteArray)[0]'h0=c:=hc
 have h0' : (0:Int)<t.length:=by omega
 have hn0:((t.length:Int)==0)=false:=beq_eq_false_iff_ne.2 (by omega)
 rw [e0,hc] at h1
 obtain ⟨N,hN⟩:∃ N,numP t=N:=⟨_,rfl⟩
 rw [hN]
 unfold numP at hN
 rw [e0,hc] at hN
 by_cases h45:c=45
 · subst h45
   have h1':=h1 rfl
   have h1i:(1:Int)<=t.length:=by omega
   rw [if_neg (by simp)] at hN
   have hdl:(t.drop 1).length=t.length - 1:=by simp
   have HF:Hid (∀ w,Calls Tryz.prog 128 #[S (t.drop 1)] w fun e w'=>e=.returned (.tuple #[S (zdc (t.drop 1)).1,.int .i64 ((zdc (t.drop 1)).2:Nat)])∧w'=w):=fun w=>form_any (t.drop 1) w (by omega) (by omega)
   have hfl:=formP_len (t.drop 1)
   by_cases h10:(zdc (t.drop 1)).2=10
   · rw [if_neg (by simpa using h10)] at hN
     have HR:Hid (∀ w,Calls Tryz.prog 129 #[S (zdc (t.drop 1)).1,.int .i64 10,.int .i64 2147483648] w fun e w'=>e=.returned (zgc (zeo (zdc (t.drop 1)).1 10 2147483648))∧w'=w):=fun w=>znh _ 10 2147483648 (by omega) (by omega) (by omega) w
     rw [h10] at HF
     have HB:∀ n,zeo (zdc (t.drop 1)).1 10 2147483648=some n->n<=2147483648:=fun n hn=>by
      unfold zeo at hn
      split at hn
      · cases hn
      · exact reckP_le _ _ _ _ _ (by omega) hn
     generalize zeo (zdc (t.drop 1)).1 10 2147483648=rv at *
     generalize (zdc (t.drop 1)).1=ds at *
     cases rv with
     | none =>
      have HN:Hid (N=none):=by show _=_;rw [<- hN];rfl
      clear hN e0 hb h1 h10 hdl hfl HB
      go_enter Tryz.func94,Tryz.ntmps94
      go_wp2_with fail
      simp only [S_from]
      refine (HF.out _).mono ?_
      rintro e w1 ⟨rfl,rfl⟩
      go_wp2_with fail
      refine (HR.out _).mono ?_
      rintro e w1 ⟨rfl,rfl⟩
      simp only [zgc]
      go_wp2
      go_ret2
      exact ⟨by rw [HN.out];rfl,rfl⟩
     | some n =>
      have HN:Hid (N=some (-(n:Int))):=by show _=_;rw [<- hN];rfl
      have hn:=HB n rfl
      have hn' : (n:Int)<=2147483648:=by omega
      clear hN e0 hb h1 h10 hdl hfl HB hn
      go_enter Tryz.func94,Tryz.ntmps94
      go_wp2_with fail
      simp only [S_from]
      refine (HF.out _).mono ?_
      rintro e w1 ⟨rfl,rfl⟩
      go_wp2_with fail
      refine (HR.out _).mono ?_
      rintro e w1 ⟨rfl,rfl⟩
      simp only [zgc]
      go_wp2
      go_ret2
      exact ⟨by rw [HN.out];rfl,rfl⟩
   · rw [if_pos (by simpa using h10)] at hN
     have HN:=hid hN.symm
     have hb10:(((zdc (t.drop 1)).2:Int)==10)=false:=beq_eq_false_iff_ne.2 (by omega)
     generalize (zdc (t.drop 1)).2=bs at *
     generalize (zdc (t.drop 1)).1=ds at *
     clear hN e0 hb h1 h10 hdl hfl
     go_enter Tryz.func94,Tryz.ntmps94
     go_wp2_with fail
     simp only [S_from]
     refine (HF.out _).mono ?_
     rintro e w1 ⟨rfl,rfl⟩
     go_wp2
     go_ret2
     exact ⟨by rw [HN.out];rfl,rfl⟩
 · rw [if_pos h45] at hN
   have hb3:((c.toNat:Int)==45)=false:=hb.trans (by simpa using h45)
   have HF:Hid (∀ w,Calls Tryz.prog 128 #[S t] w fun e w'=>e=.returned (.tuple #[S (zdc t).1,.int .i64 ((zdc t).2:Nat)])∧w'=w):=fun w=>form_any t w h0 hl
   have hfl:=formP_len t
   have hfb:=formP_base t
   have HR:Hid (∀ w,Calls Tryz.prog 129 #[S (zdc t).1,.int .i64 ((zdc t).2:Nat),.int .i64 4294967295] w fun e w'=>e=.returned (zgc (zeo (zdc t).1 (zdc t).2 4294967295))∧w'=w):=fun w=>znh _ _ 4294967295 hfb (by omega) (by omega) w
   generalize zeo (zdc t).1 (zdc t).2 4294967295=rv at *
   generalize (zdc t).1=ds at *
   generalize (zdc t).2=bs at *
   cases rv with
   | none =>
    have HN:Hid (N=none):=by show _=_;rw [<- hN];rfl
    clear hN e0 hb h1 hfl hfb h45
    go_enter Tryz.func94,Tryz.ntmps94
    go_wp2_with fail
    refine (HF.out _).mono ?_
    rintro e w1 ⟨rfl,rfl⟩
    go_wp2_with fail
    refine (HR.out _).mono ?_
    rintro e w1 ⟨rfl,rfl⟩
    simp only [zgc]
    go_wp2
    go_ret2
    exact ⟨by rw [HN.out];rfl,rfl⟩
   | some n =>
    have HN:Hid (N=some (n:Int)):=by show _=_;rw [<- hN];rfl
    clear hN e0 hb h1 hfl hfb h45
    go_enter Tryz.func94,Tryz.ntmps94
    go_wp2_with fail
    refine (HF.out _).mono ?_
    rintro e w1 ⟨rfl,rfl⟩
    go_wp2_with fail
    refine (HR.out _).mono ?_
    rintro e w1 ⟨rfl,rfl⟩
    simp only [zgc]
    go_wp2
    go_ret2
    exact ⟨by rw [HN.out];rfl,rfl⟩
def tokC (t:Tok):List Value:=[.int .i64 t.kind,S t.text,.int .i64 t.num,.int .i64 t.at_]
def tokCells (ts:List Tok):List Value:=ts.flatMap tokC
theorem tokCells_len (ts:List Tok):(tokCells ts).length=ts.length*4:=by
 induction ts with
 | nil=>rfl
 | cons t ts ih=>simp [tokCells,tokC] at ih ⊢;omega
theorem zij (ts:List Tok) (t:Tok):tokCells (ts++[t])=tokCells ts++tokC t:=by simp [tokCells]
/-- The scanner: its block, its tokens. -/
structure SC (w:World) (p:Nat) (l:List UInt8) (st frm:Nat) (v:Value) (ts:List Tok):Prop where
 s:w.cell? ⟨p,0,none⟩=some (S l)
 i:w.cell? ⟨p,1,none⟩=some (.int .i64 st)
 f:w.cell? ⟨p,2,none⟩=some (.int .i64 frm)
 t:w.cell? ⟨p,3,none⟩=some v
 f1:w.frozen? ⟨p,1,none⟩=false
 f2:w.frozen? ⟨p,2,none⟩=false
 f3:w.frozen? ⟨p,3,none⟩=false
 own:w.ownsRow (p+1) 41 4 v ts.length (tokCells ts)
theorem SC.lt {w:World} {p:Nat} {l:List UInt8} {st frm:Nat} {v:Value} {ts:List Tok} (h:SC w p l st frm v ts):p<w.heap.size:=by
 rcases Nat.lt_or_ge p w.heap.size with h1|h1
 · exact h1
 · have:=h.s
   simp [World.cell?,Array.getElem?_eq_none h1] at this
/-- What stays, and where the scanner's own tokens lie behind a step. -/
structure Kept (p:Nat) (v v' : Value) (w w' : World):Prop where
 os:w'.os=w.os
 tape:w'.tape=w.tape
 output:w'.output=w.output
 size:w.heap.size<=w'.heap.size
 block:∀ b,b<w.heap.size->b≠p->some b≠v.ownBlock->w'.heap[b]?=w.heap[b]?
 row:v'.ownBlock=v.ownBlock∨∃ g,w.heap.size<=g∧v'.ownBlock=some g
theorem cells_of_block {w w' : World} {b:Nat} (h:w'.heap[b]?=w.heap[b]?) (o:Nat):w'.cell? ⟨b,o,none⟩=w.cell? ⟨b,o,none⟩∧w'.frozen? ⟨b,o,none⟩=w.frozen? ⟨b,o,none⟩:=by
 constructor
 · unfold World.cell?;simp only [h]
 · unfold World.frozen?;simp only [h]
theorem Kept.trans {p:Nat} {v1 v2 v3:Value} {a b c:World} (h:Kept p v1 v2 a b) (k:Kept p v2 v3 b c):Kept p v1 v3 a c:=by
 refine ⟨k.os.trans h.os,k.tape.trans h.tape,k.output.trans h.output,Nat.le_trans h.size k.size,?_,?_⟩
 · intro i hi hp hv
   have hv2:some i≠v2.ownBlock:=by
    rcases h.row with e|⟨g,hg1,e⟩
    · rw [e];exact hv
    · rw [e];intro e2;cases e2;omega
   exact (k.block i (Nat.lt_of_lt_of_le hi h.size) hp hv2).trans (h.block i hi hp hv)
 · rcases k.row with e|⟨g,hg1,e⟩
   · rw [e];exact h.row
   · exact .inr ⟨g,Nat.le_trans h.size hg1,e⟩
theorem Kept.refl (p:Nat) (v:Value) (w:World):Kept p v v w w:=⟨rfl,rfl,rfl,Nat.le_refl _,fun _ _ _ _=>rfl,.inl rfl⟩
theorem Kept.of_below {p:Nat} {v:Value} {a b:World} (h:Below a.heap.size a b):Kept p v v a b:=⟨h.os,h.tape,h.output,h.size,fun i hi _ _=>h.block i hi,.inl rfl⟩
theorem SC.below {w w' : World} {p:Nat} {l:List UInt8} {st frm:Nat} {v:Value} {ts:List Tok} (h:SC w p l st frm v ts) (hB:Below w.heap.size w w'):SC w' p l st frm v ts:=by
 have hb:w'.heap[p]?=w.heap[p]?:=hB.block p h.lt
 have hg:w.grownBy w' none:=⟨hB.os,hB.tape,hB.output,hB.size,fun k hk _=>hB.block k hk⟩
 exact ⟨(cells_of_block hb 0).1.trans h.s,(cells_of_block hb 1).1.trans h.i,(cells_of_block hb 2).1.trans h.f,(cells_of_block hb 3).1.trans h.t,(cells_of_block hb 1).2.trans h.f1,(cells_of_block hb 2).2.trans h.f2,(cells_of_block hb 3).2.trans h.f3,
  h.own.kept hg (by cases hq:v.ownBlock with|none=>exact .inl rfl|some g=>exact .inr (by simp))⟩
theorem info37_ex:∃ i:TypeInfo,Tryz.prog.info? 41=some i∧i.zero=some (.agg #[.int .i64 0,.string ⟨#[]⟩,.int .i64 0,.int .i64 0])∧i.size=4∧i.bytes=40 :=
 ⟨(Tryz.prog.info? 41).getD default,by kernel_rfl,by kernel_rfl,by kernel_rfl,by kernel_rfl⟩
theorem own_form {w:World} {base n:Nat} {e:TypeId} {size:Nat} {v:Value} {xs:List Value} (h:w.ownsRow base e size v n xs):∃ a cap,v=.slice a n cap:=by
 rcases h.2 with ⟨rfl,rfl⟩|⟨g,cap,cur,rfl,_⟩
 · exact ⟨none,0,rfl⟩
 · exact ⟨_,cap,rfl⟩
/-- One token more. -/
theorem lay_step {p:Nat} {l:List UInt8} {st frm:Nat} {v v2:Value} {ts:List Tok} {w1 u w2:World} {t:Tok} {H:Nat} (h:SC w1 p l st frm v ts) (hB:Below w1.heap.size w1 u) (hown:w2.ownsRow (p+1) 41 4 v2 (ts.length+1) (tokCells ts++tokC t)) (hg:u.grownBy w2 v.ownBlock)
 (hr:v2.ownBlock=v.ownBlock∨v2.ownBlock=some H) (hH:w1.heap.size<=H) :
 (w2.cell? ⟨p,3,none⟩=some v∧w2.frozen? ⟨p,3,none⟩=false)∧SC (w2.setCell ⟨p,3,none⟩ v2) p l st frm v2 (ts++[t])∧Kept p v v2 w1 (w2.setCell ⟨p,3,none⟩ v2):=by
 have hu:=h.below hB
 have hne:some p≠v.ownBlock:=fun e=>by have:=(hu.own.lt p e.symm).1;omega
 have hne2:v2.ownBlock≠some p:=fun e=>by have:=(hown.lt p e).1;omega
 have hb:w2.heap[p]?=u.heap[p]?:=hg.block p hu.lt hne
 have hsc:∀ (k:Nat),k≠p->(w2.setCell ⟨p,3,none⟩ v2).heap[k]?=w2.heap[k]?:=fun k hk=>Below.heap_setCell _ _ _ k hk
 have hgs:w2.grownBy (w2.setCell ⟨p,3,none⟩ v2) (some p):=⟨rfl,rfl,rfl,by simp,fun k _ hk=>hsc k (fun e=>hk (by rw [e]))⟩
 refine ⟨⟨(cells_of_block hb 3).1.trans hu.t,(cells_of_block hb 3).2.trans hu.f3⟩,⟨?_,?_,?_,?_,?_,?_,?_,?_⟩,⟨?_,?_,?_,?_,?_,?_⟩⟩
 · rw [World.cell?_setCell_other _ _ _ _ (by simp),(cells_of_block hb 0).1];exact hu.s
 · rw [World.cell?_setCell_other _ _ _ _ (by simp),(cells_of_block hb 1).1];exact hu.i
 · rw [World.cell?_setCell_other _ _ _ _ (by simp),(cells_of_block hb 2).1];exact hu.f
 · exact World.cell?_setCell_same _ _ _ (by rw [(cells_of_block hb 3).1];exact hu.t)
 · rw [World.frozen?_setCell,(cells_of_block hb 1).2];exact hu.f1
 · rw [World.frozen?_setCell,(cells_of_block hb 2).2];exact hu.f2
 · rw [World.frozen?_setCell,(cells_of_block hb 3).2];exact hu.f3
 · rw [zij,show (ts++[t]).length=ts.length+1 by simp]
   exact hown.kept hgs (.inr hne2)
 · exact hg.os.trans hB.os
 · exact hg.tape.trans hB.tape
 · exact hg.output.trans hB.output
 · exact Nat.le_trans hB.size (Nat.le_trans hg.size hgs.size)
 · intro b hb1 hb2 hb3
   rw [hsc b hb2,hg.block b (Nat.lt_of_lt_of_le hb1 hB.size) hb3]
   exact hB.block b hb1
 · rcases hr with e|e
   · exact .inl e
   · exact .inr ⟨_,hH,e⟩
set_option maxHeartbeats 2000000 in
theorem zlp (p:Nat) (l text:List UInt8) (st frm:Nat) (v:Value) (ts:List Tok) (k n:Int) (w:World) (h:SC w p l st frm v ts) (hn:ts.length<=100000) :
 Calls Tryz.prog 57 #[.pointer (some ⟨p,0,none⟩),.int .i64 k,S text,.int .i64 n] w fun e w'=>e=.returned (.tuple #[])∧∃ v',SC w' p l st frm v' (ts++[⟨k,text,n,frm⟩])∧Kept p v v' w w':=by
 have hcv:=fun w s=>run_bytes_of_string (P:=Tryz.prog) w 9 66 5 s Tryz.underlying9 Tryz.underlying66 Tryz.underlying5
 obtain ⟨w1,hw1⟩:∃ w1,w.drew.alloc (.cells (bytesRow ⟨text.toArray⟩ (grownCap w text.length 0 5)) 5 ((bytesRow ⟨text.toArray⟩ (grownCap w text.length 0 5)).size,(bytesRow ⟨text.toArray⟩ (grownCap w text.length 0 5)).size+1))=w1:=⟨_,rfl⟩
 have hcb:(convert 66 9 (.slice (some ⟨w.heap.size,0,none⟩) text.length (grownCap w text.length 0 5))).run Tryz.prog w1=.ok (S text) w1:=by
  refine run_convert_bytes_back w1 66 9 5 ⟨w.heap.size,0,none⟩ _ text Tryz.underlying66 Tryz.underlying5 Tryz.underlying9 fun j hj=>?_
  rw [<- hw1,Addr.add_lit,Nat.zero_add]
  show (w.drew.alloc _).cell? ⟨w.drew.heap.size,j,none⟩=_
  rw [World.cell?_alloc_mark,bytesRow_at _ _ _ (by simpa using hj)]
  simp
 have hB1:Below w.heap.size w w1:=by rw [<- hw1];exact (Below.refl _ _).drew.alloc (Nat.le_refl _) _
 have hk1:SC w1 p l st frm v ts:=h.below hB1
 have HB1:=hid hB1
 have HK1:=hid hk1
 obtain ⟨oa,cap0,hv⟩:=own_form h.own
 have hlt1:=hk1.lt
 have hs2:=hk1.f
 have hs3:=hk1.t
 have hf3:=hk1.f3
 obtain ⟨N,hN⟩:∃ N:Nat,ts.length=N:=⟨_,rfl⟩
 rw [hN] at hv hn
 have HN:=hid hN
 have HO:Hid (∀ w2:World,(∀ b,b<w1.heap.size->w2.heap[b]?=w1.heap[b]?)->w2.ownsRow (p+1) 41 4 v N (tokCells ts)):=fun w2 h2=>by
  have ho:=hk1.own
  rw [hN] at ho
  refine ⟨ho.1,?_⟩
  rcases ho.2 with hn|⟨g,cap,cur,rfl,hb,hgg,rest⟩
  · exact .inl hn
  · exact .inr ⟨g,cap,cur,rfl,hb,by rw [h2 g (Array.getElem?_eq_some_iff.1 hgg).1];exact hgg,rest⟩
 rw [hv] at hs3
 clear hB1 hk1 hN h
 obtain ⟨inf,hi1,hi2,hi3,hi4⟩:=info37_ex
 have HI:=hid4 hi1 hi2 hi3 hi4
 clear hi1 hi2 hi3 hi4
 go_enter Tryz.func57,Tryz.ntmps57
 go_wp2_with fail
 clear hcv hcb
 have HW1:=hid hw1
 clear hw1
 have HL:Hid (∀ (u w2:World) (g cap:Nat),Below w1.heap.size w1 u->w2.ownsRow (p+1) 41 4 (.slice (some ⟨g,0,none⟩) (N+1) cap) (N+1) (tokCells ts++tokC ⟨k,text,n,frm⟩)->u.grownBy w2 v.ownBlock->(v.ownBlock=some g∨g=u.heap.size) ->
  (w2.cell? ⟨p,3,none⟩=some v∧w2.frozen? ⟨p,3,none⟩=false)∧SC (w2.setCell ⟨p,3,none⟩ (.slice (some ⟨g,0,none⟩) (N+1) cap)) p l st frm (.slice (some ⟨g,0,none⟩) (N+1) cap) (ts++[⟨k,text,n,frm⟩])∧Kept p v (.slice (some ⟨g,0,none⟩) (N+1) cap) w1 (w2.setCell ⟨p,3,none⟩ (.slice (some ⟨g,0,none⟩) (N+1) cap))):=fun u w2 g cap hB ho hg hat=>by
  refine lay_step (H:=u.heap.size) HK1.out hB (by rw [HN.out];exact ho) hg ?_ hB.size
  rcases hat with e|e
  · exact .inl e.symm
  · exact .inr (by rw [e];rfl)
 clear hs3
 have hs3:w1.cell? ⟨p,3,none⟩=some (.slice oa N cap0):=by rw [<- hv];exact HK1.out.t
 have HV:=hid hv
 clear hv
 have HP:Hid (∀ (e:Ending) (w2:World) (v2:Value),SC w2 p l st frm v2 (ts++[⟨k,text,n,frm⟩])->Kept p v v2 w1 w2->∃ v',SC w2 p l st frm v' (ts++[⟨k,text,n,frm⟩])∧Kept p v v' w w2):=fun e w2 v2 h1 h2=>⟨v2,h1,(Kept.of_below HB1.out).trans h2⟩
 go_region_law (refine step_append_lies _ rfl (.tmp 16) (.tmp 25) 37 rfl (p+1) 41 inf (.agg #[.int .i64 0,.string ⟨#[]⟩,.int .i64 0,.int .i64 0]) 4 40 Tryz.underlying37 HI.out.1 HI.out.2.1 HI.out.2.2.1 HI.out.2.2.2 rfl (by decide) v N (tokCells ts) (by rw [HV.out];rfl) (HO.out _ (fun b hb=>Below.heap_alloc _ _ b hb)) ⟨w1.heap.size,0,none⟩ 1 1 (tokC ⟨k,text,n,frm⟩) rfl rfl (World.news_of_block (cs:=#[.int .i64 k,S text,.int .i64 n,.int .i64 frm]) (t:=41) (fr:=(0,0)) (heap_alloc_new _ _)) (by simp [tokC,Value.oneCell']) (by omega) (by unfold maxLen;omega) (by omega) (by simp;omega) _ rfl ?_;intro g cap w2 hown hgrow hat hlt;have HLL:=HL.out _ w2 g cap ((Below.refl _ _).drew.alloc (Nat.le_refl _) _) hown hgrow hat;have hc3:=HLL.1.1;have hz3:=HLL.1.2;rw [HV.out] at hc3;have HSC:Hid (SC (w2.setCell ⟨p,3,none⟩ (.slice (some ⟨g,0,none⟩) (N+1) cap)) p l st frm (.slice (some ⟨g,0,none⟩) (N+1) cap) (ts++[⟨k,text,n,frm⟩])∧Kept p v (.slice (some ⟨g,0,none⟩) (N+1) cap) w1 (w2.setCell ⟨p,3,none⟩ (.slice (some ⟨g,0,none⟩) (N+1) cap))):=HLL.2;clear hown hgrow hat hlt HLL)
 all_goals (
  go_wp2
  first|go_end0|refine bodyPost_ret (results_none rfl _ _ _) rfl ?_
  exact ⟨rfl,HP.out (.returned (.tuple #[])) _ _ HSC.out.1 HSC.out.2⟩)
def zjs (p:Nat) (l:List UInt8) (st frm:Nat) (v:Value) (ts:List Tok) (r:Int × Option Tok) (w:World) (e:Ending) (w' : World):Prop :=
 e=.returned (.int .i64 r.1)∧∃ v',SC w' p l st frm v' (ts++r.2.toList)∧Kept p v v' w w'
theorem SC.drewN {w:World} {p:Nat} {l:List UInt8} {st frm:Nat} {v:Value} {ts:List Tok} (h:SC w p l st frm v ts) (k:Nat):SC (w.drewN k) p l st frm v ts:=⟨h.s,h.i,h.f,h.t,h.f1,h.f2,h.f3,h.own⟩
theorem Kept.drewN (p:Nat) (v:Value) (w:World) (k:Nat):Kept p v v w (w.drewN k):=⟨rfl,rfl,rfl,Nat.le_refl _,fun _ _ _ _=>rfl,.inl rfl⟩
def zok (text:List UInt8) (frm:Nat):Int × Option Tok:=match numP text with|some n=>(0,some ⟨3,[],n,frm⟩)|none=>(31,none)
theorem zoj (p:Nat) (l text:List UInt8) (st frm:Nat) (v:Value) (ts:List Tok) (w:World) (h:SC w p l st frm v ts) (hn:ts.length<=100000) (h0:0<text.length) (h1:text.getD 0 0=45->1<text.length) (hl:(text.length:Int)<=9223372036854775807) :
 Calls Tryz.prog 55 #[.pointer (some ⟨p,0,none⟩),S text] w (zjs p l st frm v ts (zok text frm) w):=by
 have H1:Hid (∀ w,Calls Tryz.prog 94 #[S text] w fun e w'=>e=.returned (numAns (numP text))∧w'=w):=fun w=>zgk text w h0 h1 hl
 unfold zok
 have HS:=hid h
 clear h0 h1 h
 cases hnum:numP text with
 | none =>
  rw [hnum] at H1
  clear hnum
  go_enter Tryz.func55,Tryz.ntmps55
  go_wp2_with fail
  refine (H1.out _).mono ?_
  rintro e w1 ⟨rfl,rfl⟩
  simp only [numAns]
  go_wp2
  go_ret
  exact ⟨rfl,v,by simpa using HS.out,Kept.refl _ _ _⟩
 | some n =>
  rw [hnum] at H1
  clear hnum
  have H2:=hid (zlp p l [] st frm v ts 3 n w HS.out hn)
  go_enter Tryz.func55,Tryz.ntmps55
  go_wp2_with fail
  refine (H1.out _).mono ?_
  rintro e w1 ⟨rfl,hw⟩
  have hw1:=hw.symm
  clear hw
  subst hw1
  simp only [numAns]
  go_wp2_with fail
  refine H2.out.mono ?_
  rintro e w2 ⟨rfl,hp⟩
  have HP:=hid hp
  clear hp
  go_wp2
  go_ret
  exact ⟨rfl,HP.out⟩
def zk0 (text:List UInt8) (frm:Nat):Int × Option Tok:=if 32<text.length then (32,none) else (0,some ⟨if zcb text then 2 else 1,text,0,frm⟩)
theorem endName_any (p:Nat) (l text:List UInt8) (st frm:Nat) (v:Value) (ts:List Tok) (w:World) (h:SC w p l st frm v ts) (hn:ts.length<=100000) :
 Calls Tryz.prog 56 #[.pointer (some ⟨p,0,none⟩),S text] w (zjs p l st frm v ts (zk0 text frm) w):=by
 unfold zk0
 by_cases h32:32<text.length
 · rw [if_pos h32]
   have h32' : (32:Int)<text.length:=by omega
   have HS:=hid h
   clear h
   go_enter Tryz.func56,Tryz.ntmps56
   go_wp2
   go_ret
   exact ⟨rfl,v,by simpa using HS.out,Kept.refl _ _ _⟩
 · rw [if_neg h32]
   have h32' : (text.length:Int)<=32:=by omega
   have H1:Hid (∀ w,Calls Tryz.prog 95 #[S text] w fun e w'=>e=.returned (.bool (zcb text))∧w'=w):=fun w=>znq text w
   have H2:Hid (∀ k,Calls Tryz.prog 57 #[.pointer (some ⟨p,0,none⟩),.int .i64 k,S text,.int .i64 0] w fun e w'=>e=.returned (.tuple #[])∧∃ v',SC w' p l st frm v' (ts++[⟨k,text,0,frm⟩])∧Kept p v v' w w'):=fun k=>zlp p l text st frm v ts k 0 w h hn
   clear h32 h
   generalize zcb text=b at *
   cases b
   · go_enter Tryz.func56,Tryz.ntmps56
     go_wp2_with fail
     refine (H1.out _).mono ?_
     rintro e w1 ⟨rfl,hw⟩
     have hw1:=hw.symm
     clear hw
     subst hw1
     go_wp2_with fail
     refine (H2.out _).mono ?_
     rintro e w2 ⟨rfl,hp⟩
     have HP:=hid hp
     clear hp
     go_wp2
     go_ret
     exact ⟨rfl,HP.out⟩
   · go_enter Tryz.func56,Tryz.ntmps56
     go_wp2_with fail
     refine (H1.out _).mono ?_
     rintro e w1 ⟨rfl,hw⟩
     have hw1:=hw.symm
     clear hw
     subst hw1
     go_wp2_with fail
     refine (H2.out _).mono ?_
     rintro e w2 ⟨rfl,hp⟩
     have HP:=hid hp
     clear hp
     go_wp2
     go_ret
     exact ⟨rfl,HP.out⟩
theorem endP_5 (l:List UInt8) (frm at_:Nat):endP l 5 frm at_=zok (sub l frm at_) frm:=by
 unfold endP zok
 rw [if_neg (by decide),if_neg (by decide),if_pos rfl]
 cases numP (sub l frm at_) <;> rfl
theorem endP_6 (l:List UInt8) (frm at_:Nat):endP l 6 frm at_=zk0 (sub l frm at_) frm:=by
 unfold endP zk0
 rw [if_neg (by decide),if_neg (by decide),if_neg (by decide),if_pos rfl]
set_option maxHeartbeats 4000000 in
theorem end_any (p:Nat) (l:List UInt8) (st frm at_:Nat) (v:Value) (ts:List Tok) (w:World) (h:SC w p l st frm v ts) (hn:ts.length<=100000) (hst:st<=8) (hf:frm<=at_) (ha:at_<=l.length) (hl:(l.length:Int)<=9223372036854775807)
 (h5:st=5->0<(sub l frm at_).length∧((sub l frm at_).getD 0 0=45->1<(sub l frm at_).length)) :
 Calls Tryz.prog 34 #[.pointer (some ⟨p,0,none⟩),.int .i64 at_] w (zjs p l st frm v ts (endP l st frm at_) w):=by
 have hc0:=h.s
 have hc1:=h.i
 have hc2:=h.f
 have HS:=hid h
 have i1:(frm:Int)<=at_:=by omega
 have i2:(at_:Int)<=l.length:=by omega
 have hsl:(sub l frm at_).length<=l.length:=by unfold sub;simp;omega
 have HE:=hid (S_extract l frm at_)
 clear h
 obtain rfl|rfl|rfl|rfl|rfl|rfl|rfl|rfl|rfl:st=0∨st=1∨st=2∨st=3∨st=4∨st=5∨st=6∨st=7∨st=8:=by omega
 case inr.inr.inr.inr.inr.inl =>
  have H1:Hid (∀ k,Calls Tryz.prog 55 #[.pointer (some ⟨p,0,none⟩),S (sub l frm at_)] (w.drewN k) (zjs p l 5 frm v ts (endP l 5 frm at_) (w.drewN k))):=fun k=>by
   rw [endP_5]
   exact zoj p l _ 5 frm v ts _ (HS.out.drewN k) hn (h5 rfl).1 (h5 rfl).2 (by omega)
  generalize endP l 5 frm at_=r at *
  clear h5 hst hsl
  go_enter Tryz.func34,Tryz.ntmps34
  go_wp2_with fail
  go_quiet (fail)
  go_wp2_with fail
  simp only [HE.out]
  refine (H1.out _).mono ?_
  rintro e w2 ⟨rfl,v',h1,h2⟩
  have HP:Hid (∃ v',SC w2 p l 5 frm v' (ts++r.2.toList)∧Kept p v v' w w2):=⟨v',h1,(Kept.drewN p v w _).trans h2⟩
  clear h1 h2
  go_wp2
  go_ret
  exact ⟨rfl,HP.out⟩
 case inr.inr.inr.inr.inr.inr.inl =>
  have H1:Hid (∀ k,Calls Tryz.prog 56 #[.pointer (some ⟨p,0,none⟩),S (sub l frm at_)] (w.drewN k) (zjs p l 6 frm v ts (endP l 6 frm at_) (w.drewN k))):=fun k=>by
   rw [endP_6]
   exact endName_any p l _ 6 frm v ts _ (HS.out.drewN k) hn
  generalize endP l 6 frm at_=r at *
  clear h5 hst hsl
  go_enter Tryz.func34,Tryz.ntmps34
  go_wp2_with fail
  go_quiet (fail)
  go_wp2_with fail
  simp only [HE.out]
  refine (H1.out _).mono ?_
  rintro e w2 ⟨rfl,v',h1,h2⟩
  have HP:Hid (∃ v',SC w2 p l 6 frm v' (ts++r.2.toList)∧Kept p v v' w w2):=⟨v',h1,(Kept.drewN p v w _).trans h2⟩
  clear h1 h2
  go_wp2
  go_ret
  exact ⟨rfl,HP.out⟩
 case inr.inr.inr.inr.inr.inr.inr.inl =>
  have H1:Hid (∀ k,Calls Tryz.prog 57 #[.pointer (some ⟨p,0,none⟩),.int .i64 4,S (sub l frm at_),.int .i64 0] (w.drewN k) fun e w'=>e=.returned (.tuple #[])∧∃ v',SC w' p l 7 frm v' (ts++[⟨4,sub l frm at_,0,frm⟩])∧Kept p v v' (w.drewN k) w'):=fun k=>zlp p l _ 7 frm v ts 4 0 _ (HS.out.drewN k) hn
  clear h5 hst hsl
  show Calls Tryz.prog 34 #[.pointer (some ⟨p,0,none⟩),.int .i64 at_] w (zjs p l 7 frm v ts (0,some ⟨4,sub l frm at_,0,frm⟩) w)
  go_enter Tryz.func34,Tryz.ntmps34
  go_wp2_with fail
  go_quiet (fail)
  go_wp2_with fail
  simp only [HE.out]
  refine (H1.out _).mono ?_
  rintro e w2 ⟨rfl,v',h1,h2⟩
  have HP:Hid (∃ v',SC w2 p l 7 frm v' (ts++[⟨4,sub l frm at_,0,frm⟩])∧Kept p v v' w w2):=⟨v',h1,(Kept.drewN p v w _).trans h2⟩
  clear h1 h2
  go_wp2
  go_ret
  exact ⟨rfl,HP.out⟩
 all_goals (
  clear h5 hst hsl HE
  go_enter Tryz.func34,Tryz.ntmps34
  go_wp2_with fail
  go_quiet (fail)
  go_wp2
  go_ret
  exact ⟨rfl,v,by simpa [endP] using HS.out.drewN _,Kept.drewN p v w _⟩)
/-- The scanner's block with another state, or place. -/
theorem SC.setI {w:World} {p:Nat} {l:List UInt8} {st frm:Nat} {v:Value} {ts:List Tok} (h:SC w p l st frm v ts) (st' : Nat):SC (w.setCell ⟨p,1,none⟩ (.int .i64 st')) p l st' frm v ts:=by
 have hgs:w.grownBy (w.setCell ⟨p,1,none⟩ (.int .i64 st')) (some p):=⟨rfl,rfl,rfl,by simp,fun k _ hk=>Below.heap_setCell _ _ _ k (fun e=>hk (by rw [e]))⟩
 refine ⟨?_,World.cell?_setCell_same _ _ _ h.i,?_,?_,?_,?_,?_,h.own.kept hgs (.inr fun e=>by have:=(h.own.lt p e).1;omega)⟩
 · rw [World.cell?_setCell_other _ _ _ _ (by simp)];exact h.s
 · rw [World.cell?_setCell_other _ _ _ _ (by simp)];exact h.f
 · rw [World.cell?_setCell_other _ _ _ _ (by simp)];exact h.t
 · rw [World.frozen?_setCell];exact h.f1
 · rw [World.frozen?_setCell];exact h.f2
 · rw [World.frozen?_setCell];exact h.f3
theorem SC.setF {w:World} {p:Nat} {l:List UInt8} {st frm:Nat} {v:Value} {ts:List Tok} (h:SC w p l st frm v ts) (frm' : Nat):SC (w.setCell ⟨p,2,none⟩ (.int .i64 frm')) p l st frm' v ts:=by
 have hgs:w.grownBy (w.setCell ⟨p,2,none⟩ (.int .i64 frm')) (some p):=⟨rfl,rfl,rfl,by simp,fun k _ hk=>Below.heap_setCell _ _ _ k (fun e=>hk (by rw [e]))⟩
 refine ⟨?_,?_,World.cell?_setCell_same _ _ _ h.f,?_,?_,?_,?_,h.own.kept hgs (.inr fun e=>by have:=(h.own.lt p e).1;omega)⟩
 · rw [World.cell?_setCell_other _ _ _ _ (by simp)];exact h.s
 · rw [World.cell?_setCell_other _ _ _ _ (by simp)];exact h.i
 · rw [World.cell?_setCell_other _ _ _ _ (by simp)];exact h.t
 · rw [World.frozen?_setCell];exact h.f1
 · rw [World.frozen?_setCell];exact h.f2
 · rw [World.frozen?_setCell];exact h.f3
theorem Kept.set (p:Nat) (v:Value) (w:World) (o:Nat) (u:Value):Kept p v v w (w.setCell ⟨p,o,none⟩ u) :=
 ⟨rfl,rfl,rfl,by simp,fun b _ hb _=>Below.heap_setCell _ _ _ b hb,.inl rfl⟩
/-- What one byte does: what is wrong, the state, the place, the tokens. -/
def zge (l:List UInt8) (c:UInt8) (st frm at_:Nat) (ts:List Tok):Int × Nat × Nat × List Tok :=
 if (zcv st c).2 then (0,(zcv st c).1,frm,ts)
 else if (endP l st frm at_).1=0 then (0,zdb c,at_,ts++(endP l st frm at_).2.toList)
 else ((endP l st frm at_).1,st,frm,ts++(endP l st frm at_).2.toList)
def TakePost (p:Nat) (l:List UInt8) (v:Value) (r:Int × Nat × Nat × List Tok) (w:World) (e:Ending) (w' : World):Prop :=
 e=.returned (.int .i64 r.1)∧∃ v',SC w' p l r.2.1 r.2.2.1 v' r.2.2.2∧Kept p v v' w w'
set_option maxHeartbeats 4000000 in
theorem zdf (p:Nat) (l:List UInt8) (st frm at_:Nat) (v:Value) (ts:List Tok) (w:World) (h:SC w p l st frm v ts) (hn:ts.length<=100000) (hst:st<=8) (hf:frm<=at_) (ha:at_<l.length) (hl:(l.length:Int)<=9223372036854775807)
 (h5:st=5->0<(sub l frm at_).length∧((sub l frm at_).getD 0 0=45->1<(sub l frm at_).length)) :
 Calls Tryz.prog 33 #[.pointer (some ⟨p,0,none⟩),.int .i64 at_] w (TakePost p l v (zge l (l.getD at_ 0) st frm at_ ts) w):=by
 have H1:Hid (∀ w,Calls Tryz.prog 53 #[.int .i64 st,.int .u8 ((l.getD at_ 0).toNat:Int)] w fun e w'=>e=.returned (.tuple #[.int .i64 ((zcv st (l.getD at_ 0)).1:Nat),.bool (zcv st (l.getD at_ 0)).2])∧w'=w):=fun w=>goOn_any st _ w hst
 have H2:=hid (end_any p l st frm at_ v ts w h hn hst hf (by omega) hl h5)
 have H3:Hid (∀ w,Calls Tryz.prog 54 #[.int .u8 ((l.getD at_ 0).toNat:Int)] w fun e w'=>e=.returned (.int .i64 (zdb (l.getD at_ 0):Nat))∧w'=w):=fun w=>begin_any _ w
 have hcs:({ data:=l.toArray } : ByteArray)[at_]'ha=l.getD at_ 0:=(getD_lt ha).symm
 have ha' : (at_:Int)<l.length:=by omega
 have hc0:=h.s
 have hc1:=h.i
 have hf1:=h.f1
 have HS:=hid h
 unfold zge
 clear h5 h
 generalize l.getD at_ 0=c at *
 generalize zcv st c=g at *
 generalize endP l st frm at_=r at *
 generalize zdb c=b at *
 obtain ⟨g1,g2⟩:=g
 cases g2
 · rw [if_neg (by simp)]
   by_cases hr:r.1=0
   · rw [if_pos hr]
     obtain ⟨r1,r2⟩:=r
     have hr1:r1=0:=hr
     subst hr1
     clear hr
     go_enter Tryz.func33,Tryz.ntmps33
     go_wp2_with fail
     refine (H1.out _).mono ?_
     rintro e w1 ⟨rfl,hw⟩
     have hw1:=hw.symm
     clear hw
     subst hw1
     go_wp2_with fail
     refine H2.out.mono ?_
     rintro e w2 ⟨rfl,v',h1,h2⟩
     have hk0:=h1.i
     have hk1:=h1.f
     have hk2:=h1.f1
     have hk3:=h1.f2
     have HP:=hid h1
     have HQ:=hid h2
     clear h1 h2 hc0 hc1 hf1
     go_wp2_with fail
     refine (H3.out _).mono ?_
     rintro e w3 ⟨rfl,hw⟩
     have hw1:=hw.symm
     clear hw
     subst hw1
     go_wp2
     go_ret
     exact ⟨rfl,v',(HP.out.setI b).setF at_,(HQ.out.trans (Kept.set p v' _ 1 _)).trans (Kept.set p v' _ 2 _)⟩
   · rw [if_neg hr]
     obtain ⟨r1,r2⟩:=r
     have hr1:(r1==0)=false:=by simpa using hr
     clear hr
     go_enter Tryz.func33,Tryz.ntmps33
     go_wp2_with fail
     refine (H1.out _).mono ?_
     rintro e w1 ⟨rfl,hw⟩
     have hw1:=hw.symm
     clear hw
     subst hw1
     go_wp2_with fail
     refine H2.out.mono ?_
     rintro e w2 ⟨rfl,v',h1,h2⟩
     have HP:=hid h1
     have HQ:=hid h2
     clear h1 h2 hc0 hc1 hf1
     go_wp2
     go_ret
     exact ⟨rfl,v',HP.out,HQ.out⟩
 · rw [if_pos rfl]
   go_enter Tryz.func33,Tryz.ntmps33
   go_wp2_with fail
   refine (H1.out _).mono ?_
   rintro e w1 ⟨rfl,hw⟩
   have hw1:=hw.symm
   clear hw
   subst hw1
   go_wp2
   go_ret
   exact ⟨rfl,v,HS.out.setI g1,Kept.set p v w 1 _⟩
theorem mach_take {l:List UInt8} {k st frm:Nat} {ts:List Tok} (h:k<l.length):zic l (l.drop k) k st frm ts=if (zge l (l.getD k 0) st frm k ts).1=0 then zic l (l.drop (k+1)) (k+1) (zge l (l.getD k 0) st frm k ts).2.1 (zge l (l.getD k 0) st frm k ts).2.2.1 (zge l (l.getD k 0) st frm k ts).2.2.2 else .err (zge l (l.getD k 0) st frm k ts).1 frm:=by
 rw [zem h,zic]
 unfold zge
 split
 · rfl
 split
 · rfl
 · rfl
theorem fits_take {l:List UInt8} {k st frm:Nat} {ts:List Tok} (hf:Fits l k st frm) (hle:frm<=k) (h0:(zge l (l.getD k 0) st frm k ts).1=0) :
 Fits l (k+1) (zge l (l.getD k 0) st frm k ts).2.1 (zge l (l.getD k 0) st frm k ts).2.2.1∧(zge l (l.getD k 0) st frm k ts).2.2.1<=k+1:=by
 unfold zge at h0 ⊢
 split
 · rename_i hg
   refine ⟨?_,by simp only;omega⟩
   rcases hf.on hg with ⟨h1,_,_⟩|⟨_,_,h2⟩
   · simp only;rw [h1];trivial
   · exact h2
 · rename_i hg
   rw [if_neg hg] at h0
   split
   · exact ⟨Fits.first,by simp only;omega⟩
   · rename_i h1
     rw [if_neg h1] at h0
     exact absurd h0 h1
theorem _root_.Go.Proofs.YtodfklpmbclgkaaGreatDoor.Fits.le8 {l:List UInt8} {k st frm:Nat} (h:Fits l k st frm):st<=8:=by
 match st,h with
 | 0,_=>omega
 | 1,_=>omega
 | 2,_=>omega
 | 3,_=>omega
 | 4,_=>omega
 | 5,_=>omega
 | 6,_=>omega
 | 7,_=>omega
 | 8,_=>omega
 | n+9,h=>exact h.elim
theorem take_more {l:List UInt8} {k st frm:Nat} {ts:List Tok} {c:UInt8} : (zge l c st frm k ts).2.2.2.length<=ts.length+1:=by
 have hO:∀ o:Option Tok,o.toList.length<=1:=fun o=>by cases o <;> simp
 have:=hO (endP l st frm k).2
 unfold zge
 repeat' split
 · simp
 · simp only [List.length_append];omega
 · simp only [List.length_append];omega
theorem sub_getD0 {l:List UInt8} {i j:Nat} (h:i<j):(sub l i j).getD 0 0=l.getD i 0:=by
 unfold sub
 rw [List.getD_eq_getElem?_getD,List.getD_eq_getElem?_getD,List.getElem?_take,if_pos (by omega),List.getElem?_drop,Nat.add_zero]
theorem _root_.Go.Proofs.YtodfklpmbclgkaaGreatDoor.Fits.num {l:List UInt8} {k st frm:Nat} (h:Fits l k st frm) (hk:k<=l.length):st=5->0<(sub l frm k).length∧((sub l frm k).getD 0 0=45->1<(sub l frm k).length):=by
 rintro rfl
 obtain ⟨h1,h2,h3,h4⟩:=h
 rw [zfo (by omega) hk]
 refine ⟨by omega,fun h45=>?_⟩
 rw [sub_getD0 h1] at h45
 have:zbj l frm=frm+1:=by unfold zbj;rw [if_pos h45]
 omega
theorem Kept.below {B p:Nat} {v v' : Value} {w w1 w2:World} (hB:Below B w w1) (hK:Kept p v v' w1 w2) (hw:B<=w1.heap.size) (hp:B<=p) (hv:∀ g,v.ownBlock=some g->B<=g):Below B w w2 :=
 ⟨hK.os.trans hB.os,hK.tape.trans hB.tape,hK.output.trans hB.output,Nat.le_trans hB.size hK.size,fun b hb=>(hK.block b (by omega) (by omega) (fun e=>by have:=hv b e.symm;omega)).trans (hB.block b hb)⟩
theorem below_drewN {B:Nat} {a w:World} (h:Below B a w) (k:Nat):Below B a (w.drewN k):=⟨h.os,h.tape,h.output,h.size,h.block⟩
def ScanPost (R:Res) (w:World) (e:Ending) (w' : World):Prop :=
 match R with
 | .ok ts=>∃ g cap,e=.returned (.tuple #[.slice (some ⟨g,0,none⟩) ts.length cap,.int .i64 0,.int .i64 0])∧w'.ownsRow w.heap.size 41 4 (.slice (some ⟨g,0,none⟩) ts.length cap) ts.length (tokCells ts)∧Below w.heap.size w w'
 | .err r i=>e=.returned (.tuple #[.slice none 0 0,.int .i64 r,.int .i64 i])∧Below w.heap.size w w'
theorem own_base {w:World} {base base' n:Nat} {e:TypeId} {size:Nat} {v:Value} {xs:List Value} (h:w.ownsRow base e size v n xs) (hb:base'<=base):w.ownsRow base' e size v n xs:=by
 refine ⟨h.1,?_⟩
 rcases h.2 with h2|⟨g,cap,cur,h3,h4,h5⟩
 · exact .inl h2
 · exact .inr ⟨g,cap,cur,h3,Nat.le_trans hb h4,h5⟩
theorem SC.made (l:List UInt8) (w:World):SC (w.alloc (.cells #[S l,.int .i64 0,.int .i64 0,.slice none 0 0] 64)) w.heap.size l 0 0 (.slice none 0 0) []:=by
 have hb:(w.alloc (.cells #[S l,.int .i64 0,.int .i64 0,.slice none 0 0] 64)).heap[w.heap.size]?=some (.cells #[S l,.int .i64 0,.int .i64 0,.slice none 0 0] 64 (0,0)):=heap_alloc_new _ _
 refine ⟨?_,?_,?_,?_,?_,?_,?_,World.ownsRow_nil _ _ _ _⟩
 · unfold World.cell?;rw [hb];rfl
 · unfold World.cell?;rw [hb];rfl
 · unfold World.cell?;rw [hb];rfl
 · unfold World.cell?;rw [hb];rfl
 · unfold World.frozen?;rw [hb];rfl
 · unfold World.frozen?;rw [hb];rfl
 · unfold World.frozen?;rw [hb];rfl
theorem scan_long (l:List UInt8) (w:World) (h:16000<l.length):Calls Tryz.prog 16 #[S l] w (ScanPost (zc7 l) w):=by
 unfold zc7
 rw [if_pos h]
 have h' : (16000:Int)<l.length:=by omega
 go_enter Tryz.func16,Tryz.ntmps16
 go_wp2
 go_ret3
 exact ⟨rfl,Below.refl _ _⟩
set_option maxHeartbeats 4000000 in
theorem scan_short (l:List UInt8) (w:World) (h:l.length<=16000):Calls Tryz.prog 16 #[S l] w (ScanPost (zc7 l) w):=by
 obtain ⟨R,hR⟩:∃ R,zic l l 0 0 0 []=R:=⟨_,rfl⟩
 unfold zc7
 rw [if_neg (by omega),hR]
 have HR:=hid hR
 clear hR
 have h' : (l.length:Int)<=16000:=by omega
 have hd:decide ((16000:Int)<l.length)=false:=decide_eq_false (by omega)
 obtain ⟨inf,hi1,hi2,hi3,hi4⟩:=info37_ex
 have HI:=hid4 hi1 hi2 hi3 hi4
 clear hi1 hi2 hi3 hi4
 go_enter Tryz.func16,Tryz.ntmps16
 go_wp2_with fail
 clear hd
 go_loopw [16] (fun i wr=>∃ (k st frm:Nat) (v:Value) (ts:List Tok),i=.int .i64 k∧k<=l.length∧frm<=k∧ts.length<=k∧Hid (SC wr w.heap.size l st frm v ts)∧Hid (Below w.heap.size w wr)∧Hid (Fits l k st frm)∧Hid (zic l (l.drop k) k st frm ts=R)) (fun i _=>l.length - (intOf i).toNat)
 case atStart=>exact ⟨0,0,0,.slice none 0 0,[],rfl,by omega,by omega,by simp,SC.made l w,(Below.refl _ _).alloc (Nat.le_refl _) _,trivial,HR.out⟩
 case round =>
  obtain ⟨k,st,frm,v,ts,rfl,hk,hfk,htk,HS,HB,HF,HM⟩:=hrel
  have hvb:∀ g,v.ownBlock=some g->w.heap.size<=g:=fun g hg=>by have:=(HS.out.own.lt g hg).1;omega
  have HVB:=hid hvb
  have HSZ:=hid HB.out.size
  clear hvb
  by_cases hlt:k<l.length
  · have hk' : (k:Int)<l.length:=by omega
    have HT:=hid (zdf w.heap.size l st frm k v ts wr HS.out (by omega) HF.out.le8 hfk hlt (by omega) (HF.out.num (by omega)))
    have hm0:=HM.out
    rw [mach_take hlt] at hm0
    have hft0:=fun h0=>fits_take (ts:=ts) HF.out hfk h0
    have hmo:(zge l (l.getD k 0) st frm k ts).2.2.2.length<=ts.length+1:=take_more
    have hfe:(zge l (l.getD k 0) st frm k ts).1≠0->(zge l (l.getD k 0) st frm k ts).2.2.1=frm:=fun h0=>by
     unfold zge at h0 ⊢
     split
     · rfl
     split
     · rename_i h1 h2;rw [if_neg h1,if_pos h2] at h0;exact absurd rfl h0
     · rfl
    generalize zge l (l.getD k 0) st frm k ts=r at *
    obtain ⟨r1,st2,frm2,ts2⟩:=r
    simp only at hm0 hft0 hmo hfe
    clear HF HM HS
    by_cases hr:r1=0
    · subst hr
      rw [if_pos rfl] at hm0
      have HM2:=hid hm0
      have HF2:=hid ((hft0 rfl).1)
      have hf2:=(hft0 rfl).2
      clear hm0 hft0 hfe
      go_wp2_with fail
      refine HT.out.mono ?_
      rintro e w2 ⟨rfl,v',h1,h2⟩
      have HS2:=hid h1
      have HB2:=hid (h2.below HB.out HSZ.out (Nat.le_refl _) HVB.out)
      clear h1 h2
      go_wp2
      go_roundw
      case rel=>exact ⟨k+1,st2,frm2,v',ts2,by go_num,by omega,hf2,by omega,HS2.out,HB2.out,HF2.out,HM2.out⟩
      case measure=>simp [intOf];omega
    · rw [if_neg hr] at hm0
      have HM2:=hid hm0
      have hr1:(r1==0)=false:=by simpa using hr
      obtain rfl:=hfe hr
      clear hm0 hft0 hr hfe
      go_wp2_with fail
      refine HT.out.mono ?_
      rintro e w2 ⟨rfl,v',h1,h2⟩
      have hc2:=h1.f
      have HB2:=hid (h2.below HB.out HSZ.out (Nat.le_refl _) HVB.out)
      clear h1 h2
      go_wp2_with fail
      go_quiet (fail)
      go_wp2
      go_ret3
      rw [<- HM2.out]
      exact ⟨rfl,below_drewN HB2.out _⟩
  · obtain rfl:k=l.length:=by omega
    have HT:=hid (end_any w.heap.size l st frm l.length v ts wr HS.out (by omega) HF.out.le8 hfk (Nat.le_refl _) (by omega) (HF.out.num (Nat.le_refl _)))
    have hm0:=HM.out
    rw [List.drop_length,zic] at hm0
    have hol:(endP l st frm l.length).2.toList.length<=1:=by cases (endP l st frm l.length).2 <;> simp
    generalize endP l st frm l.length=r at *
    obtain ⟨r1,r2⟩:=r
    simp only at hm0 hol
    clear HF HM HS
    by_cases hr:r1=0
    · subst hr
      rw [if_pos rfl] at hm0
      have HM2:=hid hm0
      clear hm0
      go_wp2_with fail
      refine HT.out.mono ?_
      rintro e w2 ⟨rfl,v',h1,h2⟩
      have HB2:=hid (h2.below HB.out HSZ.out (Nat.le_refl _) HVB.out)
      have hc3:=h1.t
      obtain ⟨oa,cap0,hv⟩:=own_form h1.own
      obtain ⟨us,hus⟩:∃ us,ts++r2.toList=us:=⟨_,rfl⟩
      have hul:us.length<=16001:=by rw [<- hus,List.length_append];omega
      rw [hus] at HM2 h1 hv
      have HO:=hid h1
      obtain ⟨N,hN⟩:∃ N,us.length=N:=⟨_,rfl⟩
      rw [hN] at hv hul
      have HN:=hid hN
      have HV:=hid hv
      have HOO:Hid (∀ w3:World,(∀ b,b<w2.heap.size->w3.heap[b]?=w2.heap[b]?)->w3.ownsRow (w.heap.size+1) 41 4 v' N (tokCells us)):=fun w3 h3=>by
       have ho:=h1.own
       rw [hN] at ho
       refine ⟨ho.1,?_⟩
       rcases ho.2 with hn|⟨g,cap,cur,rfl,hb,hgg,rest⟩
       · exact .inl hn
       · exact .inr ⟨g,cap,cur,rfl,hb,by rw [h3 g (Array.getElem?_eq_some_iff.1 hgg).1];exact hgg,rest⟩
      have HSZ2:=hid h1.lt
      have HVB2:Hid (∀ g,v'.ownBlock=some g->w.heap.size<=g):=fun g hg=>by have:=(h1.own.lt g hg).1;omega
      rw [hv] at hc3
      clear h1 h2 hv hN hus hol
      go_wp2_with (at_builtin;refine Hid.out ?_)
      refine (show Hid _ from ?_)
      refine wpList_append_lies _ rfl _ _ 37 rfl (w.heap.size+1) 41 inf (.agg #[.int .i64 0,.string ⟨#[]⟩,.int .i64 0,.int .i64 0]) 4 40 Tryz.underlying37 HI.out.1 HI.out.2.1 HI.out.2.2.1 HI.out.2.2.2 rfl (by decide) v' N (tokCells us) (by rw [HV.out];rfl) (HOO.out _ (fun b hb=>Below.heap_alloc _ _ b hb)) ⟨w2.heap.size,0,none⟩ 1 1 (tokC ⟨5,[],0,l.length⟩) rfl rfl (World.news_of_block (cs:=#[.int .i64 5,S [],.int .i64 0,.int .i64 l.length]) (t:=41) (fr:=(0,0)) (heap_alloc_new _ _)) (by simp [tokC,Value.oneCell']) (by omega) (by unfold maxLen;omega) (by omega) (by have:=HSZ2.out;simp;omega) _ rfl ?_
      intro g cap w3 hown hgrow hat hlt3
      have HOW:Hid (w3.ownsRow w.heap.size 41 4 (.slice (some ⟨g,0,none⟩) (N+1) cap) (N+1) (tokCells us++tokC ⟨5,[],0,l.length⟩)):=own_base hown (by omega)
      have HB3:Hid (Below w.heap.size w w3):=(HB2.out.alloc (by have:=HSZ2.out;omega) _).grown hgrow (by have:=HSZ2.out;simp;omega) HVB2.out
      clear hown hgrow hat hlt3
      go_wp2
      go_ret3
      rw [<- HM2.out]
      refine ⟨g,cap,?_,?_,HB3.out⟩
      · rw [show (us++[(⟨5,[],0,l.length⟩:Tok)]).length=N+1 by rw [List.length_append,HN.out];rfl];rfl
      · rw [show (us++[(⟨5,[],0,l.length⟩:Tok)]).length=N+1 by rw [List.length_append,HN.out];rfl,zij];exact HOW.out
    · rw [if_neg hr] at hm0
      have HM2:=hid hm0
      have hr1:(r1==0)=false:=by simpa using hr
      clear hm0 hr
      go_wp2_with fail
      refine HT.out.mono ?_
      rintro e w2 ⟨rfl,v',h1,h2⟩
      have hc2:=h1.f
      have HB2:=hid (h2.below HB.out HSZ.out (Nat.le_refl _) HVB.out)
      clear h1 h2
      go_wp2_with fail
      go_quiet (fail)
      go_wp2
      go_ret3
      rw [<- HM2.out]
      exact ⟨rfl,below_drewN HB2.out _⟩
theorem scan_any (l:List UInt8) (w:World):Calls Tryz.prog 16 #[S l] w (ScanPost (zc7 l) w):=by
 rcases Nat.lt_or_ge 16000 l.length with h|h
 · exact scan_long l w h
 · exact scan_short l w h
end Go.Proofs.YtodfklpmbclgkaaGreatDoor.Lx
namespace Go.Proofs.YtodfklpmbclgkaaGreatDoor
open Go.RowKit
open Lx (S tokC tokCells tokCells_len)
theorem zk5 {l:List UInt8} {i:Nat} {ts vs:List Tok} {R:Res} (h:Scans l i ts R) (hR:R=.ok vs):vs.length<=ts.length+(l.length - i)+1:=by
 induction h with
 | done h=>cases hR;simp
 | err h hs=>cases hR
 | go h hs hr ih =>
  have h1:=ih hR
  have h2:=zgb h hs
  rename_i t j _
  have h3:t.toList.length<=1:=by cases t <;> simp
  simp only [List.length_append] at h1
  omega
theorem scan_ok {l:List UInt8} {ts:List Tok} (h:zc7 l=.ok ts):l.length<=16000∧ts.length<=16001∧Ends ts∧0<ts.length:=by
 have hl:l.length<=16000:=by
  rcases Nat.lt_or_ge 16000 l.length with h1|h1
  · unfold zc7 at h;rw [if_pos h1] at h;cases h
  · exact h1
 have hs:=zc2 hl
 rw [h] at hs
 have h1:=zk5 hs rfl
 obtain ⟨us,rfl⟩:=ok_last hs rfl
 simp only [List.length_nil] at h1
 refine ⟨hl,by omega,?_,by simp⟩
 intro j hj hl2
 have hj2:j=us.length:=by simp at hj hl2;omega
 subst hj2
 simp
theorem ze5 (ts:List Tok):∀ (j:Nat) (h:j<ts.length),(tokCells ts)[j*4]?=some (.int .i64 ts[j].kind)∧(tokCells ts)[j*4+1]?=some (S ts[j].text)∧(tokCells ts)[j*4+2]?=some (.int .i64 ts[j].num)∧(tokCells ts)[j*4+3]?=some (.int .i64 ts[j].at_):=by
 induction ts with
 | nil=>intro j h;simp at h
 | cons t ts ih =>
  intro j h
  cases j with
  | zero=>simp [tokCells,tokC]
  | succ j =>
   have hx:=ih j (by simp at h;omega)
   have e:tokCells (t::ts)=tokC t++tokCells ts:=by simp [tokCells]
   have hl:(tokC t).length=4:=rfl
   rw [e]
   refine ⟨?_,?_,?_,?_⟩
   · rw [List.getElem?_append_right (by rw [hl];omega),hl,show (j+1)*4 - 4=j*4 by omega];exact hx.1
   · rw [List.getElem?_append_right (by rw [hl];omega),hl,show (j+1)*4+1 - 4=j*4+1 by omega];exact hx.2.1
   · rw [List.getElem?_append_right (by rw [hl];omega),hl,show (j+1)*4+2 - 4=j*4+2 by omega];exact hx.2.2.1
   · rw [List.getElem?_append_right (by rw [hl];omega),hl,show (j+1)*4+3 - 4=j*4+3 by omega];exact hx.2.2.2
theorem PP.made {w:World} {base g cap:Nat} {ts:List Tok} (ho:w.ownsRow base 41 4 (.slice (some ⟨g,0,none⟩) ts.length cap) ts.length (tokCells ts)) (h1:ts.length<=16001) (h0:0<ts.length) :
 PP (w.alloc (.cells #[.slice (some ⟨g,0,none⟩) ts.length cap,.int .i64 0,.int .i64 0,.bool false] 53)) w.heap.size g cap ts 0 0 false:=by
 have hg:g<w.heap.size:=(ho.lt g rfl).2
 have hc:∀ o,(w.alloc (.cells #[.slice (some ⟨g,0,none⟩) ts.length cap,.int .i64 0,.int .i64 0,.bool false] 53)).cell? ⟨g,o,none⟩=w.cell? ⟨g,o,none⟩:=fun o=>World.cell?_alloc_lt _ _ _ hg
 refine ⟨by simp,by simp,by simp,by simp,by simp,by simp,by simp,?_,?_,?_,?_,h0,h1,Nat.ne_of_lt hg⟩
 · intro j h;rw [hc,ho.cellAt _ (by omega)];exact (ze5 ts j h).1
 · intro j h;rw [hc,ho.cellAt _ (by omega)];exact (ze5 ts j h).2.1
 · intro j h;rw [hc,ho.cellAt _ (by omega)];exact (ze5 ts j h).2.2.1
 · intro j h;rw [hc,ho.cellAt _ (by omega)];exact (ze5 ts j h).2.2.2
end Go.Proofs.YtodfklpmbclgkaaGreatDoor
namespace Go.Proofs.YtodfklpmbclgkaaGreatDoor
open Go.RowKit
theorem zj8 (a b:Int) (w:World):(Instr.typeAssert (.iface 50 (.agg #[.int .i64 a,.int .i64 b])) 20 50 true).run Tryz.prog w=.ok (.tuple #[.agg #[.int .i64 a,.int .i64 b],.bool true]) w:=by kernel_rfl
theorem zmi (w:World):(Instr.typeAssert .nilIface 20 50 true).run Tryz.prog w=.ok (.tuple #[.agg #[.int .i64 0,.int .i64 0],.bool false]) w:=by kernel_rfl
theorem bldz (w:World):(Instr.build 29 #[]).run Tryz.prog w=.ok (.agg #[.int .i64 0,.string ⟨#[]⟩,.int .i64 0,.int .i64 0,.slice none 0 0]) w:=by kernel_rfl
/-- a variable of one number -/
def oneO (x:Int) (t:TypeId):Obj:=.cells #[.int .i64 x] t (0,0)
theorem zb2 {w:World} {b:Nat} {x:Int} {t:TypeId} (h:w.heap[b]?=some (oneO x t)):w.cell? ⟨b,0,none⟩=some (.int .i64 x)∧w.frozen? ⟨b,0,none⟩=false:=by
 unfold oneO at h
 simp [World.cell?,World.frozen?,h]
set_option maxHeartbeats 2000000 in
set_option maxRecDepth 4000 in
theorem catch_fault (tb eb ab:Nat) (why:Int) (at_:Nat) (older:List PanicEntry) (w:World) (k9:Int) (n9:List UInt8) (m9:Int) (a9:Nat) (sl:Value) (x y:Int) (ht:w.heap[tb]?=some (kidO k9 n9 m9 a9 sl)) (he:w.heap[eb]?=some (oneO x 30)) (ha:w.heap[ab]?=some (oneO y 3)) (h1:tb≠eb) (h2:tb≠ab) (h3:eb≠ab) :
 CallsD Tryz.prog 25 #[.pointer (some ⟨tb,0,none⟩),.pointer (some ⟨eb,0,none⟩),.pointer (some ⟨ab,0,none⟩)] (.panicking ({ v:=.iface 50 (.agg #[.int .i64 why,.int .i64 at_]),recovered:=false }::older)) w fun e u' w' =>
  e=.returned (.tuple #[])∧u'=.panicking ({ v:=.iface 50 (.agg #[.int .i64 why,.int .i64 at_]),recovered:=true }::older) ∧
  (w'.heap[tb]?=some (kidO 0 [] 0 0 (.slice none 0 0))∧w'.heap[eb]?=some (oneO why 30)∧w'.heap[ab]?=some (oneO at_ 3))∧(∀ b,b<w.heap.size->b≠tb->b≠eb->b≠ab->w'.heap[b]?=w.heap[b]?)∧w'.os=w.os∧w'.tape=w.tape∧w'.output=w.output∧w.heap.size<=w'.heap.size:=by
 have qa:=zj8 why at_
 have HW:=hid3 ht he ha
 refine callsD_of_wpS Tryz.func25 rfl fun c₀ cs hu=>?_
 clear ht he ha
 apply wpS_seq
 apply wpS_region
 simp [wpOpsS,go_sem,recoverD,hu,Tryz.ntmps25,Exit.thenS,Array.replicate,qa]
 obtain ⟨wa,hwa⟩:∃ x,w.alloc (.cells #[.int .i64 why,.int .i64 at_] 50)=x:=⟨_,rfl⟩
 rw [hwa]
 have kt:wa.heap[tb]?=some (kidO k9 n9 m9 a9 sl):=by rw [<- hwa];exact zc0 HW.out.1
 have ke:wa.heap[eb]?=some (oneO x 30):=by rw [<- hwa];exact zc0 HW.out.2.1
 have ka:wa.heap[ab]?=some (oneO y 3):=by rw [<- hwa];exact zc0 HW.out.2.2
 have HK:=hid3 kt ke ka
 have HA:Hid (Below w.heap.size w wa):=by show Below w.heap.size w wa;rw [<- hwa];exact zad _ _
 have f0:wa.cell? ⟨w.heap.size,0,none⟩=some (.int .i64 why):=by rw [<- hwa];simp
 have f1:wa.cell? ⟨w.heap.size,1,none⟩=some (.int .i64 at_):=by rw [<- hwa];simp
 obtain ⟨⟨z0,z1,z2,z3,z4⟩,⟨y0,y1,y2,y3,y4⟩⟩:=zac kt
 obtain ⟨e0,g0⟩:=zb2 ke
 obtain ⟨a0,b0⟩:=zb2 ka
 have n1:¬ w.heap.size=tb:=by have:=zep HW.out.1;omega
 have n2:¬ w.heap.size=eb:=by have:=zep HW.out.2.1;omega
 have n3:¬ w.heap.size=ab:=by have:=zep HW.out.2.2;omega
 have m1:¬ tb=eb:=h1
 have m2:¬ tb=ab:=h2
 have m3:¬ eb=ab:=h3
 have m4:¬ eb=tb:=fun e=>h1 e.symm
 have m5:¬ ab=tb:=fun e=>h2 e.symm
 have m6:¬ ab=eb:=fun e=>h3 e.symm
 have qb:=bldz
 clear kt ke ka h1 h2 h3 hwa qa
 refine wpS_of_wp ?_
 go_wp2
 go_region
 all_goals (
  go_wp2
  obtain ⟨u,hu5⟩:∃ u,((((wa.setCell ⟨tb,0,none⟩ (.int .i64 0)).setCell ⟨tb,1,none⟩ (.string ⟨#[]⟩)).setCell ⟨tb,2,none⟩ (.int .i64 0)).setCell ⟨tb,3,none⟩ (.int .i64 0)).setCell ⟨tb,4,none⟩ (.slice none 0 0)=u:=⟨_,rfl⟩
  have hut:u.heap[tb]?=some (kidO 0 [] 0 0 (.slice none 0 0)):=by rw [<- hu5];exact zfj (n:=[]) (a:=0) HK.out.1
  have hub:∀ b,b≠tb->u.heap[b]?=wa.heap[b]?:=by rw [<- hu5];exact zb0 wa tb _ _ _ _ _
  have hus:u.heap.size=wa.heap.size∧u.os=wa.os∧u.tape=wa.tape∧u.output=wa.output:=by rw [<- hu5];exact ⟨by simp,rfl,rfl,rfl⟩
  have hz:(((u.setCell ⟨eb,0,none⟩ (.int .i64 why)).setCell ⟨ab,0,none⟩ (.int .i64 at_)).drew.heap[tb]?=some (kidO 0 [] 0 0 (.slice none 0 0))∧((u.setCell ⟨eb,0,none⟩ (.int .i64 why)).setCell ⟨ab,0,none⟩ (.int .i64 at_)).drew.heap[eb]?=some (oneO why 30)∧((u.setCell ⟨eb,0,none⟩ (.int .i64 why)).setCell ⟨ab,0,none⟩ (.int .i64 at_)).drew.heap[ab]?=some (oneO at_ 3))∧(∀ b,b<w.heap.size->b≠tb->b≠eb->b≠ab->((u.setCell ⟨eb,0,none⟩ (.int .i64 why)).setCell ⟨ab,0,none⟩ (.int .i64 at_)).drew.heap[b]?=w.heap[b]?)∧((u.setCell ⟨eb,0,none⟩ (.int .i64 why)).setCell ⟨ab,0,none⟩ (.int .i64 at_)).drew.os=w.os∧((u.setCell ⟨eb,0,none⟩ (.int .i64 why)).setCell ⟨ab,0,none⟩ (.int .i64 at_)).drew.tape=w.tape∧((u.setCell ⟨eb,0,none⟩ (.int .i64 why)).setCell ⟨ab,0,none⟩ (.int .i64 at_)).drew.output=w.output∧w.heap.size<=((u.setCell ⟨eb,0,none⟩ (.int .i64 why)).setCell ⟨ab,0,none⟩ (.int .i64 at_)).drew.heap.size:=by
   have hA:=HA.out
   refine ⟨⟨?_,?_,?_⟩,?_,hus.2.1.trans hA.os,hus.2.2.1.trans hA.tape,hus.2.2.2.trans hA.output,?_⟩
   · exact (Below.heap_setCell _ _ _ _ m2).trans ((Below.heap_setCell _ _ _ _ m1).trans hut)
   · exact (Below.heap_setCell _ _ _ _ m3).trans (zav ((hub eb m4).trans HK.out.2.1))
   · exact zav ((Below.heap_setCell _ _ _ _ m6).trans ((hub ab m5).trans HK.out.2.2))
   · intro b hb q1 q2 q3
     exact (Below.heap_setCell _ _ _ _ q3).trans ((Below.heap_setCell _ _ _ _ q2).trans ((hub b q1).trans (hA.block b hb)))
   · show w.heap.size<=((u.setCell ⟨eb,0,none⟩ (.int .i64 why)).setCell ⟨ab,0,none⟩ (.int .i64 at_)).heap.size
     have:=hA.size
     simp
     omega
  rw [hu5]
  generalize ((u.setCell ⟨eb,0,none⟩ (.int .i64 why)).setCell ⟨ab,0,none⟩ (.int .i64 at_)).drew=wz at hz ⊢
  clear z0 z1 z2 z3 z4 y0 y1 y2 y3 y4 e0 g0 a0 b0 f0 f1 hut hub hus hu5 qb HW HK HA
  cases c₀
  simp_all [bodyPostS,results,Tryz.results25])
set_option maxHeartbeats 2000000 in
set_option maxRecDepth 4000 in
theorem catch_idle (tb eb ab:Nat) (w:World) :
 CallsD Tryz.prog 25 #[.pointer (some ⟨tb,0,none⟩),.pointer (some ⟨eb,0,none⟩),.pointer (some ⟨ab,0,none⟩)] .returning w fun e u' w'=>e=.returned (.tuple #[])∧u'=.returning∧Below w.heap.size w w':=by
 have qa:=zmi
 refine callsD_of_wpS Tryz.func25 rfl fun c₀ cs hu=>?_
 apply wpS_seq
 apply wpS_region
 simp [wpOpsS,go_sem,recoverD,hu,Tryz.ntmps25,Exit.thenS,Array.replicate,qa]
 refine wpS_of_wp ?_
 go_wp2
 have hb:Below w.heap.size w (w.alloc (.cells #[.int .i64 0,.int .i64 0] 50)):=zad _ _
 generalize w.alloc (.cells #[.int .i64 0,.int .i64 0] 50)=wz at hb ⊢
 cases c₀
 simp_all [bodyPostS,results,Tryz.results25]
end Go.Proofs.YtodfklpmbclgkaaGreatDoor
