/- Lives of a nest: the program's method 'lives'. -/
import Derived.Test.YtgmjijjckedmcaaMh
import Derived.Test.YtgmjijjckedmcaaQt
namespace Go.Proofs.Ytgmjijjckedmcaa
namespace Vo
open Go.ChangeShapes Go.WideShapes Go.ChangeAt Go.RowKit Go.Joins Go.Sort
open Vl Vp
set_option linter.unusedVariables false
set_option linter.unusedSimpArgs false
/-- those given among the first k are reached -/
def gst (SD : Nat → Int) (has : Nat → Bool) (k : Nat) : Nat → MV := fun b => if b < k ∧ has b = true then ⟨b, SD b, 0, 0⟩ else st0 SD b
/-- the first m loads are reached -/
def lds (K : KV) (t : Int) (C : Nat → MV) : Nat → (Nat → MV)
  | 0 => C
  | m + 1 => updM (lds K t C m) (K.AA m).u.toNat (rch1 (lds K t C m (K.AA m).u.toNat) t)
/-- what the first t kernels touch is reached -/
def kst (S : Nat → MV) (KK : Nat → KV) : Nat → (Nat → MV)
  | 0 => S
  | t + 1 => lds (KK t) t (updM (kst S KK t) (KK t).st.u.toNat (rch1 (kst S KK t (KK t).st.u.toNat) t)) (KK t).an
/-- an out -/
def ou1 (x : MV) (kn : Int) : MV := rch1 (if x.f = -1 then rch1 x 0 else x) kn
def ost (S : Nat → MV) (OD : Nat → Int) (kn : Int) : Nat → (Nat → MV)
  | 0 => S
  | m + 1 => updM (ost S OD kn m) (OD m).toNat (ou1 (ost S OD kn m (OD m).toNat) kn)
def allst (v : NV) : Nat → MV := ost (kst (gst v.SD (fun q => hasB (v.i + v.fn) (gvn v) q) v.sn) v.KK v.kn) v.OD v.kn v.on
theorem Bw.keptG {T : Nat → Prop} {w w' : World} {g n : Nat} {F : Nat → Bool} (h : Bw w g n F) (hk : Kept T w w') (hn : n = 0 ∨ ¬ T g) : Bw w' g n F := by
  refine ⟨Nat.lt_of_lt_of_le h.1 hk.size, fun q hq => ?_⟩
  have nT : ¬ T g := by rcases hn with e | e; omega; exact e
  have e := hk.block g h.1 nT
  exact ⟨(World.cell?_of_block (a := ⟨g, q, none⟩) e).trans (h.2 q hq).1, (World.frozen?_of_block (a := ⟨g, q, none⟩) e).trans (h.2 q hq).2⟩
set_option maxRecDepth 100000 in
set_option maxHeartbeats 8000000 in
theorem livesF (B : Nat) (v : NV) (w : World) (hB : B ≤ w.heap.size) (h : v.read B w) (hl : v.len 1048576) (hok : NOk v) :
    Calls Try.prog 28 #[v.val] w fun e w' => ∃ g, e = .returned (.slice (some ⟨g, 0, none⟩) (kl (allst v) v.sn).length v.sn) ∧ OML w.heap.size w' g (kl (allst v) v.sn).length (kl (allst v) v.sn).length (fun q => allst v ((kl (allst v) v.sn).getD q 0)) ∧ Below w.heap.size w w' := by
  obtain ⟨W1, hW1⟩ : ∃ W1, w.alloc (.cells #[.slice v.sa v.sn v.scap, .slice v.ia v.i v.icap, .slice v.fa v.fn v.fcap, .slice v.ka v.kn v.kcap, .slice v.oa v.on v.ocap] 33) = W1 := ⟨_, rfl⟩
  have BL := hide (show Below w.heap.size w W1 by rw [← hW1]; exact (Below.refl _ _).alloc (Nat.le_refl _) _)
  have p := Cells5.new w (.slice v.sa v.sn v.scap) (.slice v.ia v.i v.icap) (.slice v.fa v.fn v.fcap) (.slice v.ka v.kn v.kcap) (.slice v.oa v.on v.ocap) 33
  rw [hW1] at p
  have C1 := hide p
  have z1 : w.heap.size < W1.heap.size := World.block_lt_of_cell? _ _ p.1
  have H1 := hide (h.below (BL.out.mono hB))
  have HL := hide hl
  have OK := hide hok
  have kn400 : (v.kn : Int) ≤ 400 := by have := hok.1.2.2.2; omega
  have CE := hide (elemLife B w.heap.size v W1 (Nat.le_trans hB BL.out.size) H1.out z1 p hl.1)
  obtain ⟨ST, hST⟩ : ∃ ST, allst v = ST := ⟨_, rfl⟩
  have EST := hide hST
  rw [hST]
  obtain ⟨p0, p1, p2, p3, p4⟩ := p
  have hB1 : B ≤ W1.heap.size := by omega
  clear hok hl h hST
  unfold NV.val
  go_enter Try.func28, Try.ntmps28
  go_wp2_with fail
  refine CE.out.mono ?_
  rintro e1 W2 ⟨rfl, o2, b2⟩
  have B2 := hide b2
  have O2 := hide o2
  obtain ⟨g, hg⟩ : ∃ g, W1.heap.size = g := ⟨_, rfl⟩
  have C2 := hide (C1.out.below b2 z1)
  have G2 := hide (givenF B v W2 (Nat.le_trans hB1 b2.size) (H1.out.below (b2.mono hB1)) HL.out ⟨OK.out.1.1, OK.out.2.2.1⟩ OK.out.2.1.1)
  unfold NV.val at G2
  clear b2 o2 CE p0 p1 p2 p3 p4 hW1
  obtain ⟨p0, p1, p2, p3, p4⟩ := C2.out
  go_wp2_with fail
  refine G2.out.mono ?_
  intro e1 W3 hgv
  rcases hgv with ⟨_, g2, rfl, bw, b3⟩ | ⟨hn, _, _⟩
  rotate_left
  · exact absurd ⟨OK.out.2.2.2.1, OK.out.2.2.2.2.1⟩ hn
  have O3 := hide (O2.out.below b3)
  have C3 := hide (C2.out.below b3 (Nat.lt_of_lt_of_le z1 B2.out.size))
  have B3 := hide (show Below W1.heap.size W1 W3 from B2.out.trans (b3.mono B2.out.size))
  have hbw := hide bw
  have ng : v.sn = 0 ∨ ¬ (g2 = W1.heap.size) := by
    rcases Nat.eq_zero_or_pos v.sn with c | c
    · exact .inl c
    · refine .inr fun e => ?_
      have q1 := (bw.2 0 c).1
      have q2 := (O3.out.laid 0 c).1.1
      rw [e] at q1
      rw [show (0 : Nat) * 4 = 0 by omega, q1] at q2
      cases q2
  have ALL := hide (fun (X : World) (hk : Kept (· = W1.heap.size) W3 X) => (⟨C3.out.kept hk (Nat.lt_of_lt_of_le z1 B3.out.size) (by show ¬ w.heap.size = W1.heap.size; omega), hbw.out.keptG hk ng, H1.out.below ((B3.out.mono hB1).trans (hk.below (Nat.le_trans hB1 B3.out.size) (fun k e => by have e : k = W1.heap.size := e; omega))), BL.out.trans ((B3.out.trans (hk.below B3.out.size (fun k e => by have e : k = W1.heap.size := e; omega))).mono BL.out.size)⟩ : Cells5 X w.heap.size (.slice v.sa v.sn v.scap) (.slice v.ia v.i v.icap) (.slice v.fa v.fn v.fcap) (.slice v.ka v.kn v.kcap) (.slice v.oa v.on v.ocap) ∧ Bw X g2 v.sn (fun q => hasB (v.i + v.fn) (gvn v) q) ∧ v.read B X ∧ Below w.heap.size w X))
  obtain ⟨has, hhas⟩ : ∃ has : Nat → Bool, (fun q : Nat => hasB (v.i + v.fn) (gvn v) (q : Int)) = has := ⟨_, rfl⟩
  rw [hhas] at ALL
  have EH := hide hhas
  have z3 : W1.heap.size < W3.heap.size := O3.out.lt
  rw [hg] at ALL O3 z3 ng
  have z1g : w.heap.size < g := by omega
  clear bw b3 G2 O2 C2 C3 B2 p0 p1 p2 p3 p4 hbw hhas
  obtain ⟨⟨p0, p1, p2, p3, p4⟩, _, _, _⟩ := ALL.out W3 (Kept.refl _ _)
  go_wp2_with fail
  clear p0 p1 p2 p3 p4
  have sn200 : (v.sn : Int) ≤ 200 := by have := OK.out.1.1; omega
  go_loopw [26] (fun i wx => ∃ (k : Nat) (E : Nat → MV), k ≤ v.sn ∧ i = .int .i64 k ∧ OML g wx g v.sn v.sn E ∧ (∀ q, q < v.sn → E q = gst v.SD has k q) ∧ Kept (· = g) W3 wx) (fun i _ => v.sn - (intOf i).toNat)
  case atStart => exact ⟨0, _, Nat.zero_le _, rfl, O3.out, fun q hq => by unfold gst; rw [if_neg (fun c => by omega)], Kept.refl _ _⟩
  case round =>
    obtain ⟨X, rfl⟩ : ∃ X, X = wr := ⟨_, rfl⟩
    obtain ⟨k, E, hk, rfl, ho, he, hkp⟩ := hrel
    have HO := hide ho
    have HE := hide he
    have HK := hide hkp
    clear ho he hkp
    obtain ⟨⟨p0, p1, p2, p3, p4⟩, bw, _, _⟩ := ALL.out X HK.out
    by_cases hlt : k < v.sn
    case pos =>
      have kI : (k : Int) < v.sn := by omega
      have cb := (bw.2 k hlt).1
      cases hh : has k with
      | false =>
        rw [hh] at cb
        have e2 := hide (show ∀ q, q < v.sn → E q = gst v.SD has (k + 1) q from fun q hq => by
          rw [HE.out q hq]
          unfold gst
          by_cases c : q = k
          · rw [c, hh, if_neg (by simp), if_neg (by simp)]
          · by_cases d : q < k ∧ has q = true
            · rw [if_pos d, if_pos ⟨by omega, d.2⟩]
            · rw [if_neg d, if_neg (fun z => d ⟨by omega, z.2⟩)])
        clear hh bw
        go_wp2_with fail
        go_roundw
        all_goals first
          | (simp only [intOf]; omega)
          | (simp [intOf]; omega)
          | exact ⟨k + 1, E, by omega, by go_num, HO.out, e2.out, HK.out⟩
      | true =>
        rw [hh] at cb
        have CR := hide (reachF g g v.sn E k 0 X HO.out hlt (by unfold bd; omega))
        have e2 := hide (show ∀ q, q < v.sn → updM E k (rch1 (E k) 0) q = gst v.SD has (k + 1) q from fun q hq => by
          unfold updM
          by_cases c : q = k
          · rw [if_pos c, HE.out k hlt, c]
            unfold gst
            rw [if_neg (fun z => by omega), if_pos ⟨by omega, hh⟩]
            rfl
          · rw [if_neg c, HE.out q hq]
            unfold gst
            by_cases d : q < k ∧ has q = true
            · rw [if_pos d, if_pos ⟨by omega, d.2⟩]
            · rw [if_neg d, if_neg (fun z => d ⟨by omega, z.2⟩)])
        clear hh bw
        go_wp2_with fail
        refine CR.out.mono ?_
        rintro e1 X1 ⟨rfl, o4, k4⟩
        have O4 := hide o4
        have K4 := hide (HK.out.trans k4)
        clear o4 k4 CR cb p0 p1 p2 p3 p4
        go_wp2_with fail
        go_roundw
        all_goals first
          | (simp only [intOf]; omega)
          | (simp [intOf]; omega)
          | exact ⟨k + 1, _, by omega, by go_num, O4.out, e2.out, K4.out⟩
    case neg =>
      obtain rfl : k = v.sn := by omega
      have OS := hide (HO.out.same (D := kst (gst v.SD has v.sn) v.KK 0) (fun q hq => (HE.out q hq).symm))
      go_wp2_with fail
      clear p0 p1 p2 p3 p4 bw
      go_loopw [40] (fun i wx => ∃ t : Nat, t ≤ v.kn ∧ i = .int .i64 t ∧ OML g wx g v.sn v.sn (kst (gst v.SD has v.sn) v.KK t) ∧ Kept (· = g) W3 wx) (fun i _ => v.kn - (intOf i).toNat)
      case atStart => exact ⟨0, Nat.zero_le _, rfl, OS.out, HK.out⟩
      case round =>
        clear OS HO HE HK
        obtain ⟨X, rfl⟩ : ∃ X, X = wr := ⟨_, rfl⟩
        obtain ⟨t, ht, rfl, ho, hkp⟩ := hrel
        have HO := hide ho
        have HK := hide hkp
        clear ho hkp
        obtain ⟨⟨p0, p1, p2, p3, p4⟩, _, rdX, bX⟩ := ALL.out X HK.out
        have zX : W3.heap.size ≤ X.heap.size := HK.out.size
        by_cases hlt : t < v.kn
        case pos =>
          have tI : (t : Int) < v.kn := by omega
          have KO := hide (OK.out.2.2.2.2.2.1 t hlt).1
          rcases rdX.2.2.2.1 with q0 | ⟨kb, ko, hka, hkb, hkc⟩
          · omega
          rw [hka] at p3
          rw [hka]
          obtain ⟨⟨c0, c1, c2, c3, c4, c5, c6⟩, rdk⟩ := hkc t hlt
          obtain ⟨K, hK⟩ : ∃ K, v.KK t = K := ⟨_, rfl⟩
          rw [hK] at c0 c1 c2 c3 c4 c5 c6 rdk KO
          have EK := hide hK
          have su : 0 ≤ K.st.u ∧ K.st.u < v.sn := KO.out.2.2.2.2.1.1
          obtain ⟨n, hn⟩ : ∃ n : Nat, K.st.u = n := ⟨K.st.u.toNat, by omega⟩
          rw [hn] at c2
          have nlt : n < v.sn := by omega
          have nI : (n : Int) < v.sn := by omega
          have an30 : (K.an : Int) ≤ 30 := by have := KO.out.2.1; omega
          have EN := hide hn
          obtain ⟨Y, hY⟩ : ∃ Y, X.alloc (.cells #[.slice K.la K.lr K.lcap, .slice K.aa K.an K.acap, .int .i64 (n : Int), .int .i64 K.st.o, .slice K.st.a K.st.r K.st.cap, .bool K.sm, .slice K.ca K.cn K.ccap] 90) = Y := ⟨_, rfl⟩
          have bY : Below X.heap.size X Y := by rw [← hY]; exact (Below.refl _ _).alloc (Nat.le_refl _) _
          have c7 := Cells7.new X (.slice K.la K.lr K.lcap) (.slice K.aa K.an K.acap) (.int .i64 (n : Int)) (.int .i64 K.st.o) (.slice K.st.a K.st.r K.st.cap) (.bool K.sm) (.slice K.ca K.cn K.ccap) 90
          rw [hY] at c7
          have zY : X.heap.size < Y.heap.size := World.block_lt_of_cell? _ _ c7.1
          have C7 := hide c7
          have KY := hide (show Kept (· = g) W3 Y from HK.out.trans (Kept.of_below bY))
          have OY := hide (HO.out.below bY)
          have CR := hide (reachF g g v.sn _ n (t : Int) Y OY.out nlt (by unfold bd; omega))
          obtain ⟨s0, s1, s2, s3, s4, s5, s6⟩ := c7
          obtain ⟨⟨m0, m1, m2, m3, m4⟩, _, _, _⟩ := ALL.out Y KY.out
          obtain ⟨S1, hS1⟩ : ∃ S1, updM (kst (gst v.SD has v.sn) v.KK t) n (rch1 (kst (gst v.SD has v.sn) v.KK t n) (t : Int)) = S1 := ⟨_, rfl⟩
          rw [hS1] at CR
          have ES := hide (show kst (gst v.SD has v.sn) v.KK (t + 1) = lds K t S1 K.an by
            show lds (v.KK t) t (updM (kst (gst v.SD has v.sn) v.KK t) (v.KK t).st.u.toNat (rch1 (kst (gst v.SD has v.sn) v.KK t (v.KK t).st.u.toNat) t)) (v.KK t).an = _
            rw [hK, hn, ← hS1]
            rfl)
          clear hkc hK hn hS1 bY rdk hka
          go_wp2_with fail
          refine CR.out.mono ?_
          rintro e1 Y1 ⟨rfl, o5, k5⟩
          have O5 := hide o5
          have K5 := hide (KY.out.trans k5)
          have C8 := hide (show Cells7 Y1 X.heap.size _ _ _ _ _ _ _ from C7.out.kept k5 zY (by show ¬ X.heap.size = g; omega))
          clear s0 s1 s2 s3 s4 s5 s6 m0 m1 m2 m3 m4 p0 p1 p2 p3 p4 c0 c1 c2 c3 c4 c5 c6 hY CR OY KY C7 rdX bX
          obtain ⟨s0, s1, s2, s3, s4, s5, s6⟩ := C8.out
          go_wp2_with fail
          clear s0 s1 s2 s3 s4 s5 s6
          go_loopw [55] (fun i wx => ∃ m : Nat, m ≤ K.an ∧ i = .int .i64 m ∧ OML g wx g v.sn v.sn (lds K t S1 m) ∧ Kept (· = g) W3 wx) (fun i _ => K.an - (intOf i).toNat)
          case atStart => exact ⟨0, Nat.zero_le _, rfl, O5.out, K5.out⟩
          case round =>
            clear HO HK O5 K5 C8
            obtain ⟨V, rfl⟩ : ∃ V, V = wr := ⟨_, rfl⟩
            obtain ⟨m, hm, rfl, ho, hkp⟩ := hrel
            have HO := hide ho
            have HK := hide hkp
            clear ho hkp
            obtain ⟨_, _, rdV, _⟩ := ALL.out V HK.out
            by_cases hlm : m < K.an
            case pos =>
              have mI : (m : Int) < K.an := by omega
              rcases rdV.2.2.2.1 with q0 | ⟨kb, ko, hka, hkb, hkc⟩
              · omega
              have rdk := (hkc t hlt).2
              rw [EK.out] at rdk
              rcases rdk.2.1 with q0 | ⟨ab, ao, haa, hab, hac⟩
              · omega
              obtain ⟨a0, a1, a2, _⟩ := hac m hlm
              have au : 0 ≤ (K.AA m).u ∧ (K.AA m).u < v.sn := (KO.out.2.2.2.2.2 m hlm).1.1
              obtain ⟨n2, hn2⟩ : ∃ n2 : Nat, (K.AA m).u = n2 := ⟨(K.AA m).u.toNat, by omega⟩
              rw [hn2] at a0
              have n2lt : n2 < v.sn := by omega
              have n2I : (n2 : Int) < v.sn := by omega
              obtain ⟨U, hU⟩ : ∃ U, V.alloc (.cells #[.int .i64 (n2 : Int), .int .i64 (K.AA m).o, .slice (K.AA m).a (K.AA m).r (K.AA m).cap] 87) = U := ⟨_, rfl⟩
              have bU : Below V.heap.size V U := by rw [← hU]; exact (Below.refl _ _).alloc (Nat.le_refl _) _
              have t0 : U.cell? ⟨V.heap.size, 0, none⟩ = some (.int .i64 (n2 : Int)) := by rw [← hU]; simp [go_sem]
              have KU := hide (show Kept (· = g) W3 U from HK.out.trans (Kept.of_below bU))
              have CR := hide (reachF g g v.sn _ n2 (t : Int) U (HO.out.below bU) n2lt (by unfold bd; omega))
              have ES2 := hide (show updM (lds K t S1 m) n2 (rch1 (lds K t S1 m n2) (t : Int)) = lds K t S1 (m + 1) by
                show _ = updM (lds K t S1 m) (K.AA m).u.toNat (rch1 (lds K t S1 m (K.AA m).u.toNat) t)
                rw [hn2]
                rfl)
              rw [ES2.out] at CR
              rw [haa]
              clear hkc hac hn2 bU rdk rdV ES2 hka haa
              go_wp2_with fail
              refine CR.out.mono ?_
              rintro e1 U1 ⟨rfl, o6, k6⟩
              have O6 := hide o6
              have K6 := hide (KU.out.trans k6)
              clear o6 k6 hU t0 CR a0 a1 a2
              go_wp2_with fail
              go_roundw
              all_goals first
                | (simp only [intOf]; omega)
                | (simp [intOf]; omega)
                | exact ⟨m + 1, by omega, by go_num, O6.out, K6.out⟩
            case neg =>
              obtain rfl : m = K.an := by omega
              go_wp2_with fail
              go_roundw
              all_goals first
                | (simp only [intOf]; omega)
                | (simp [intOf]; omega)
                | exact ⟨t + 1, by omega, by go_num, by rw [ES.out]; exact HO.out, HK.out⟩
        case neg =>
          obtain rfl : t = v.kn := by omega
          obtain ⟨S2, hS2⟩ : ∃ S2, kst (gst v.SD has v.sn) v.KK v.kn = S2 := ⟨_, rfl⟩
          rw [hS2] at HO
          have EST2 := hide (show ST = ost S2 v.OD v.kn v.on by rw [← EST.out, ← hS2, ← EH.out]; rfl)
          clear hS2
          go_wp2_with fail
          clear p0 p1 p2 p3 p4 rdX bX
          go_loopw [70] (fun i wx => ∃ m : Nat, m ≤ v.on ∧ i = .int .i64 m ∧ OML g wx g v.sn v.sn (ost S2 v.OD v.kn m) ∧ Kept (· = g) W3 wx) (fun i _ => v.on - (intOf i).toNat)
          case atStart => exact ⟨0, Nat.zero_le _, rfl, HO.out, HK.out⟩
          case round =>
            clear HO HK
            obtain ⟨V, rfl⟩ : ∃ V, V = wr := ⟨_, rfl⟩
            obtain ⟨m, hm, rfl, ho, hkp⟩ := hrel
            have HO := hide ho
            have HK := hide hkp
            clear ho hkp
            obtain ⟨⟨p0, p1, p2, p3, p4⟩, _, rdV, bV⟩ := ALL.out V HK.out
            have on40 : (v.on : Int) ≤ 40 := by have := OK.out.1.2.2.1; omega
            by_cases hlm : m < v.on
            case pos =>
              have mI : (m : Int) < v.on := by omega
              have au := OK.out.2.1.2 m hlm
              rcases rdV.2.2.2.2 with q0 | ⟨ob, oo, hoa, hob, hoc⟩
              · omega
              have a0 := (hoc m hlm).1
              obtain ⟨n2, hn2⟩ : ∃ n2 : Nat, v.OD m = n2 := ⟨(v.OD m).toNat, by omega⟩
              rw [hn2] at a0
              have n2lt : n2 < v.sn := by omega
              have n2I : (n2 : Int) < v.sn := by omega
              have ES2 := hide (show ost S2 v.OD v.kn (m + 1) = updM (ost S2 v.OD v.kn m) n2 (ou1 (ost S2 v.OD v.kn m n2) v.kn) by
                show updM (ost S2 v.OD v.kn m) (v.OD m).toNat (ou1 (ost S2 v.OD v.kn m (v.OD m).toNat) v.kn) = _
                rw [hn2]
                rfl)
              obtain ⟨E, hE⟩ : ∃ E, ost S2 v.OD v.kn m = E := ⟨_, rfl⟩
              rw [hE] at ES2 HO
              obtain ⟨⟨c0, c1, c2, c3⟩, _⟩ := HO.out.laid n2 n2lt
              rw [hoa]
              rw [hoa] at p4
              clear hoc hn2 hE hoa
              by_cases cf : (E n2).f = -1
              case pos =>
                have cf' : ((E n2).f == -1) = true := by simp [cf]
                have CR := hide (reachF g g v.sn E n2 0 V HO.out n2lt (by unfold bd; omega))
                have EO := hide (show updM (updM E n2 (rch1 (E n2) 0)) n2 (rch1 (updM E n2 (rch1 (E n2) 0) n2) (v.kn : Int)) = ost S2 v.OD v.kn (m + 1) by
                  rw [ES2.out, updM_same]
                  unfold ou1
                  rw [if_pos cf]
                  unfold updM
                  rw [if_pos rfl])
                clear cf
                go_wp2_with fail
                refine CR.out.mono ?_
                rintro e1 V1 ⟨rfl, o6, k6⟩
                have O6 := hide o6
                have K6 := hide (HK.out.trans k6)
                have CR2 := hide (fun (q : Nat) => reachF g g v.sn _ n2 (v.kn : Int) (V1.drewN q) (o6.below (below_drewN (Below.refl _ V1) q)) n2lt (by unfold bd; omega))
                rw [EO.out] at CR2
                clear o6 k6 CR a0 c0 c1 c2 c3 p0 p1 p2 p3 p4 rdV bV
                obtain ⟨⟨p0, p1, p2, p3, p4⟩, _, _, _⟩ := ALL.out V1 K6.out
                go_wp2_with fail
                refine Qt.region_tail_lit 6 (by kernel_rfl) (by kernel_rfl) ?_
                simp only [List.take_succ_cons, List.take_zero, List.drop_succ_cons, List.drop_zero]
                repeat (go_big_quiet_step (fail))
                refine wpQuiet_nil ?_
                intro _ hw'
                obtain ⟨nq, hw''⟩ := hw'
                subst hw''
                go_wp2_with fail
                refine (CR2.out nq).mono ?_
                rintro e1 V2 ⟨rfl, o7, k7⟩
                have O7 := hide o7
                have K7 := hide (show Kept (· = g) W3 V2 from (K6.out.trans (Kept.of_below (below_drewN (Below.refl _ V1) nq))).trans k7)
                clear o7 k7 CR2 p0 p1 p2 p3 p4
                go_wp2_with fail
                go_roundw
                all_goals first
                  | (simp only [intOf]; omega)
                  | (simp [intOf]; omega)
                  | exact ⟨m + 1, by omega, by go_num, O7.out, K7.out⟩
              case neg =>
                have cf' : ((E n2).f == -1) = false := by simp [cf]
                have EO := hide (show updM E n2 (rch1 (E n2) (v.kn : Int)) = ost S2 v.OD v.kn (m + 1) by
                  rw [ES2.out]
                  unfold ou1
                  rw [if_neg cf])
                have CR2 := hide (fun (q : Nat) => reachF g g v.sn E n2 (v.kn : Int) (V.drewN q) (HO.out.below (below_drewN (Below.refl _ V) q)) n2lt (by unfold bd; omega))
                rw [EO.out] at CR2
                clear cf
                go_wp2_with fail
                refine Qt.region_tail_lit 6 (by kernel_rfl) (by kernel_rfl) ?_
                simp only [List.take_succ_cons, List.take_zero, List.drop_succ_cons, List.drop_zero]
                repeat (go_big_quiet_step (fail))
                refine wpQuiet_nil ?_
                intro _ hw'
                obtain ⟨nq, hw''⟩ := hw'
                subst hw''
                go_wp2_with fail
                refine (CR2.out nq).mono ?_
                rintro e1 V2 ⟨rfl, o7, k7⟩
                have O7 := hide o7
                have K7 := hide (show Kept (· = g) W3 V2 from (HK.out.trans (Kept.of_below (below_drewN (Below.refl _ V) nq))).trans k7)
                clear o7 k7 CR2 p0 p1 p2 p3 p4 a0 c0 c1 c2 c3 rdV bV
                go_wp2_with fail
                go_roundw
                all_goals first
                  | (simp only [intOf]; omega)
                  | (simp [intOf]; omega)
                  | exact ⟨m + 1, by omega, by go_num, O7.out, K7.out⟩
            case neg =>
              obtain rfl : m = v.on := by omega
              rw [← EST2.out] at HO
              have CD := hide (deleteF g g v.sn ST V HO.out (by omega))
              go_wp2_with fail
              refine CD.out.mono ?_
              rintro e1 V2 ⟨rfl, o7, k7⟩
              have O7 := hide o7
              have K7 := hide (HK.out.trans k7)
              clear o7 k7 CD p0 p1 p2 p3 p4 rdV
              go_wp2_with fail
              go_ret
              exact ⟨g, rfl, ⟨Nat.le_of_lt z1g, O7.out.lt, O7.out.laid, O7.out.rest, O7.out.free⟩, (ALL.out V2 K7.out).2.2.2⟩
end Vo
end Go.Proofs.Ytgmjijjckedmcaa
