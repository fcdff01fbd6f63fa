import PyProof.Rows.All
import Wide.All
import OpenK.AllK
import Wide.FinOn
import HandS.ForMost
import HandS.ForExc
import HandS.More
import HandS.Walk
import HandS.HeadHook3
import HandS.TryMany
import HandS.StrMore
import HandS.IsInst
import HandS.TupLe
import HandS.Property
import HandS.DictComp
import HandS.Deep
import HandS.TupAny
import HandS.Conv
import HandS.ExcInit
import HandS.ExcField
import HandS.Star
import HandS.MakeKwOnly
import HandS.Strs
import HandS.DictEq
import PySem.Challenge.RW_soleinstances_k57_shapes_let
set_option Elab.async false
set_option linter.all false
set_option maxRecDepth 100000
set_option maxHeartbeats 4000000
/-! The keys of a written dict with text keys, walked. -/
namespace Bk
open PySem PySem.Spec PyProof.Rows L2
/-- the text of a key -/
def keyTx (e : DictEntry) : Option Str := match e.key with
  | .str x _ => some x
  | _ => none
/-- at d: a written dict with the texts ks as keys, in order -/
def WD (K : PySem.W.Frag) (w : World) (d : Addr) (ks : List Str) : Prop := ∃ es n, KDict K w d es n ∧ es.toList.map keyTx = ks.map some
theorem keyTx_some {e : DictEntry} {k : Str} (h : keyTx e = some k) : ∃ t, e.key = .str k t := by
  unfold keyTx at h
  split at h
  · rename_i x t q
    cases h
    exact ⟨t, q⟩
  · cases h
theorem keys_size {es : Array DictEntry} {ks : List Str} (h : es.toList.map keyTx = ks.map some) : es.size = ks.length := by
  have := congrArg List.length h
  simpa using this
theorem keys_at {es : Array DictEntry} {ks : List Str} (h : es.toList.map keyTx = ks.map some) {i : Nat} {k : Str} (hk : ks[i]? = some k) : ∃ en t, es[i]? = some en ∧ en.key = .str k t := by
  have h1 := congrArg (fun l : List (Option Str) => l[i]?) h
  simp only [List.getElem?_map, hk, Option.map_some] at h1
  cases e : es.toList[i]? with
  | none =>
    rw [e] at h1
    cases h1
  | some en =>
    rw [e] at h1
    simp only [Option.map_some, Option.some.injEq] at h1
    obtain ⟨t, q⟩ := keyTx_some h1
    refine ⟨en, t, ?_, q⟩
    rw [← Array.getElem?_toList]
    exact e
/-- the keys ks, in order -/
def Itw (ks : List Str) : It := ⟨fun i _ => i < ks.length, fun i H x H' => H' = H ∧ ∃ k, ks[i]? = some k ∧ x = .str k, fun i _ => ks.length ≤ i⟩
theorem turn_wkeys {P : Program} {w : World} {K : PySem.W.Frag} {tg : Expr} {d : Addr} {es : Array DictEntry} {ep : Nat} {ks : List Str} (it : Addr) (hl : K.lookup d = some ⟨.type "dict", none, .dict es ep, #[]⟩) (hk : es.toList.map keyTx = ks.map some) :
    Turn P w K tg (Itw ks) [it] it (fun i h => h.IsKeyIter it d i ks.length ep) where
  mem := by simp
  obj := fun i h st b hb => by
    have e : b = it := by simpa using hb
    subst e
    obtain ⟨oi, e, c, dd⟩ := st
    exact ⟨oi, e, fun v z => by rw [dd] at z; cases z⟩
  keep := fun i h h' st k => st.at fun oi e => k it (by simp) oi e
  item := by
    intro X hP hw hK hc i pins s σ H E I hf st hg
    subst hP hw hK
    obtain ⟨f0, f1, f2, f3, f4, f5⟩ := hf it (by simp)
    have hg' : i < ks.length := hg
    obtain ⟨k, hkk⟩ : ∃ k, ks[i]? = some k := ⟨ks[i], List.getElem?_eq_getElem hg'⟩
    obtain ⟨en, t, hen, hkey⟩ := keys_at hk hkk
    have hod := I.kIn _ _ hl
    refine next_key_item st hod rfl (keys_size hk) hen fun h' st' sb => ?_
    have I1 : Inv X pins σ H { s with heap := h' } := I.turned (t' := s.toks) (fun b ob hb e => (sb.2 b hb).trans e) f0 f1 f3 f4 f5
    obtain ⟨oi, e, c, dd⟩ := id st'
    refine ⟨en.key, rfl, go_of (s := { s with heap := h' }) e c dd (by decide) ⟨.str k, H, I1, ⟨t, hkey⟩, ⟨rfl, k, hkk, rfl⟩, st', fun b hb => (hf b hb).1⟩⟩
  done := by
    intro X hP hw hK hc i pins s σ H E I hf st hg
    subst hP hw hK
    obtain ⟨f0, f1, f2, f3, f4, f5⟩ := hf it (by simp)
    have hod := I.kIn _ _ hl
    exact next_key_end (I.ok.hd hc) st hod rfl (keys_size hk) hg fun h' eb => ⟨rfl, I.turned (t' := s.toks) (fun b ob hb e => eb b ob hb e) f0 f1 f3 f4 f5⟩
  self := fun A i s Q E st h => wpAny_pyIter_keyiter st h
def iW (K : PySem.W.Frag) (w : World) (td : TE) : TI := fun σ H R => td σ H fun x H1 => ∃ d ks, x = .ref d ∧ WD K w d ks ∧ R (Itw ks) H1
theorem pi_wkeys {X : Cx} {tg e : Expr} {td : TE} (he : PE X e td) : PI X tg e (iW X.K X.w td) := by
  refine ⟨fun pins s σ H R I h => ?_⟩
  refine thn (he.run pins s σ H _ I h) fun u s1 ⟨x, H1, I1, rx, d, ks, ex, ⟨es, n, D, hk⟩, q⟩ => ?_
  subst ex
  obtain rfl : u = Value.ref d := rx
  have hod := I1.kIn _ _ D.at_
  refine iter_keys D.low hod ⟨rfl, rfl, rfl⟩ rfl (pi_one (tk := s1.toks) I1 _ (turn_wkeys _ D.at_ hk) ⟨_, Heap.get?_push_size _ rfl, rfl, ?_⟩ q)
  rw [keys_size hk] <;> rfl
theorem walk_w {ks : List Str} : Walk (Itw ks) ks.length (fun _ => True) (fun i H x H' => H' = H ∧ ∃ k, ks[i]? = some k ∧ x = .str k) :=
  ⟨fun _ _ hi _ => hi, fun _ _ => Nat.le_refl _, fun _ _ _ _ _ _ y => y⟩
/-- the value of a written dict at a text -/
theorem WD.get {K : PySem.W.Frag} {w : World} {d : Addr} {ks : List Str} {z : Str} {u : Value} {v : V} (D : WD K w d ks) (e : PySem.W.nsIn K d z = some (some u)) (r : RelV v u) : KDct K w d z v := by
  obtain ⟨es, n, D, _⟩ := D
  exact ⟨es, n, u, D.at_, D.lit, e, r⟩
end Bk
/-! Several except clauses, each with a name. -/
namespace Bk
open PySem PySem.Spec PyProof.Rows L2
/-- the ends of a suite behind which slot i is let go -/
def dropE (i : Nat) (D : Ends) : Ends := { nx := fun σ' H' => D.nx (σ'.set i none) H', rt := D.rt, bk := fun σ' H' => D.bk (σ'.set i none) H', ct := fun σ' H' => D.ct (σ'.set i none) H' }
/-- what the clauses wish of an exception of the body, one after the other; i the name's slot -/
def wManyA (K : PySem.W.Frag) (Wout : WX) (D : Ends) : List (Value × Nat × (Addr → Value → Option Addr → TS)) → WX
  | [] => Wout
  | (c, i, ts) :: r => fun cls d σ H => ∃ b, PySem.W.exmOne K cls c = some b ∧ (b = true → ∀ a, H a = none → ts a cls d (dropE i D) (σ.set i (some (.ref a))) H) ∧ (b = false → wManyA K Wout D r cls d σ H)
inductive HdsA (X : Cx) : List ExceptHandler → List (Value × Nat × (Addr → Value → Option Addr → TS)) → Prop
  | nil : HdsA X [] []
  | cons {x n : Str} {c : Value} {i : Nat} {ts : Addr → Value → Option Addr → TS} {b₀ : Stmt} {suite : List Stmt} {np pos' : Pos} {hds : List ExceptHandler} {l : List (Value × Nat × (Addr → Value → Option Addr → TS))} (hi : X.N[i]? = some n) (hln : X.env.kindOf n = some .local) (hc : Names X x c)
      (hsu : ∀ (a : Addr) (oe : Obj) (cls : Value) (d : Option Addr) (pn : List (Addr × Obj)), Zc cls d oe → (∃ vs, oe.data = .fields vs) → PSs (X.suite a ((a, oe) :: pn)) (b₀ :: suite) (ts a cls d)) (r : HdsA X hds l) :
      HdsA X (.ExceptHandler (some (.Name x np)) (some n) (b₀ :: suite) pos' :: hds) ((c, i, ts) :: l)
section
variable {X : Cx} {body : List Stmt} {h₀ : ExceptHandler} {hds : List ExceptHandler} {l : List (Value × Nat × (Addr → Value → Option Addr → TS))} {pos : Pos} {tb : WX → TS} {Wout : WX}
theorem ps_try_manyA (hs : X.stack = X.env :: X.outer) (hf : X.env.frame = some X.env.locals) (hN : X.N.Nodup) (tk : Takes X Wout)
    (hb : ∀ (W : WX) (pn : List (Addr × Obj)) (xe : Value → Shared → Prop), Takes (X.tr pn xe) W → PassesOwn (model X.prog X.w) X.A X.env xe → PSs (X.tr pn xe) body (tb W))
    (hh : HdsA X (h₀ :: hds) l) : PS X (.Try body (h₀ :: hds) [] [] pos) (fun D σ H => tb (wManyA X.K Wout D l) D σ H) := by
  refine ⟨fun pins s σ H D I h => ?_⟩
  have ok := I.ok
  have hfr : X.A.frames = some (X.env :: X.outer) := by rw [ok.frames, hs]
  refine wpAny_Try_except ?_
  refine wpAny_mono ((hb (wManyA X.K Wout D l) (X.pn ++ pins) (fun e s₁ => wpAny (model X.prog X.w) X.A (noteFrame e X.env) (fun _ s₂ => wpAny (model X.prog X.w) X.A (setFlight e none) (fun _ s₃ =>
    wpAny (model X.prog X.w) X.A (handleBy e X.env (h₀ :: hds)) (SP X pins D) X.xe s₃) X.xe s₂) X.xe s₁) (fun u s' xx => ?_) PassesOwn.looking).run [] s σ H D (I.toTry _) h) (fun f s1 hsp => ?_) (fun e s1 he => he)
  · -- the catch
    obtain ⟨a, B, sI, pins', σ', H', cls, d, rfl, J', nb, up, sky, na, os, ag, w⟩ := xx
    have J : Inv X pins σ' H' sI := J'.ofTry ok
    have sky' : Sky B (X.env :: X.outer) a (Zc cls d) X.env.locals s'.heap := by rw [← hs]; exact sky
    show wpAny (model X.prog X.w) X.A (noteFrame (.ref a) X.env) _ _ _
    refine Sky.land Zc.steady hfr hf sky' fun h3 fl3 up3 => ?_
    have J3 : Inv X pins σ' H' { s' with heap := h3 } := J.landed nb fl3.1 (up.trans up3) os ag
    obtain ⟨oe3, vs3, he3, hz3, hd3⟩ := fl3.there
    have notFr : ∀ {h : Heap} {o : Obj} {vs : Array Value}, h.FunFrames B (X.env :: X.outer) → h.get? a = some o → o.data = .fields vs → a ∉ frs (X.env :: X.outer) := fun {h o vs} ff e dd hm => by
      obtain ⟨_, o', e', hnf⟩ := ff.mem hm
      rw [e] at e'; cases e'
      exact hnf _ dd
    have nfr := notFr fl3.2.2.1 he3 hd3
    have nL : a ≠ X.env.locals := fun z => nfr (List.mem_filterMap.mpr ⟨X.env, List.mem_cons_self, by rw [hf, z]⟩)
    have nF : a ∉ X.fs := fun hm => by
      obtain ⟨e, he, q⟩ := List.mem_filterMap.mp hm
      exact nfr (List.mem_filterMap.mpr ⟨e, List.mem_cons_of_mem _ he, q⟩)
    have S3 := J3.suite he3 hd3 na nL nF
    have go : ∀ {hds' : List ExceptHandler} {l' : List (Value × Nat × (Addr → Value → Option Addr → TS))}, HdsA X hds' l' → wManyA X.K Wout D l' cls d σ' H' →
        wpAny (model X.prog X.w) X.A (handleBy (.ref a) X.env hds') (SP X pins D) X.xe { s' with heap := h3 } := by
      intro hds' l' hk
      induction hk with
      | nil =>
        intro w
        refine wpAny_handleBy_nil ?_
        obtain ⟨k1, k2, k3, oe, vs, T, oT, ts', he, hz, hd, h1, hr⟩ := id fl3
        unfold PySem.passOn
        refine wpAny_bind (wpAny_field he hd h1 ?_)
        rw [if_neg (show ¬ ((Value.ref T == Value.none) = true) from by simp)]
        have fin : wpAny (model X.prog X.w) X.A (setFlight (.ref a) X.env.frame) (fun _ s4 => wpAny (model X.prog X.w) X.A (throw (.ref a) : Sem Flow) (SP X pins D) X.xe s4) X.xe { s' with heap := h3 } := by
          rw [hf]
          refine HandSPX.setFlight_upZ fl3 fun h4 hh4 up4 => wpAny_throw (tk _ _ ?_)
          exact ⟨a, B, sI, pins, σ', H', cls, d, rfl, J, nb, (up.trans up3).trans up4, .inr (.inr (by rw [hs]; exact hh4)), na, os, ag, w⟩
        first
          | exact wpAny_bind (wpAny_pure (wpAny_bind fin))
          | exact wpAny_bind fin
      | @cons x n c i ts b₀ suite np pos' hds2 l2 hi hln hc hsu r ih =>
        intro w
        obtain ⟨b, hb1, hyes, hno⟩ := w
        refine wpAny_handleBy_cons (codeAny_handlers_test ?_) (by intro q; cases q)
        have LT : PySem.W.Looks (model X.prog X.w) h3 (typeOf (.ref a)) cls := fun A Q E s k q => wpAny_typeOf_ref (k _ _ he3) (by rw [hz3.1]; exact q)
        have LM := PySem.W.exm_one (M := model X.prog X.w) (J3.kIn) LT hb1
        have test : ∀ {Q : Value → Shared → Prop} {E : Value → Shared → Prop}, Q c { s' with heap := h3 } → wpAny (model X.prog X.w) (X.A.mark (some (.ref a))) (eval (.Name x np) X.env) Q E { s' with heap := h3 } := fun {Q E} q => by
          obtain ⟨hg, hdbg, hm | ⟨hm, hv, hnn⟩⟩ := hc
          · exact ld_glob (X := X.suite a ((a, oe3) :: (X.pn ++ pins))) S3 hg hm q hdbg
          · exact ld_blt (X := X.suite a ((a, oe3) :: (X.pn ++ pins))) S3 hg hm hv q hnn hdbg
        refine test (LM.here ?_)
        cases b with
        | true =>
          refine codeAny_handlers_suite_as ?_
          refine HandSPX.lands_againZ fl3 fun h4 fl4 up4 => ?_
          have J4 : Inv X pins σ' H' { s' with heap := h4 } := J.landed nb fl4.1 ((up.trans up3).trans up4) os ag
          obtain ⟨oe4, vs4, he4, hz4, hd4⟩ := fl4.there
          have S4 := J4.suite he4 hd4 na nL nF
          have hloc : Loc X.env.scope n := .inl hln
          refine store_ok (X := X.suite a ((a, oe4) :: (X.pn ++ pins))) (v := .ref a) S4 hN hi hloc rfl (fun s5 S5 => ?_) (.inr hln)
          refine wpAny_mono ((hsu a oe4 cls d (X.pn ++ pins) hz4 ⟨_, hd4⟩).run [] s5 _ H' _ S5 (hyes rfl a na)) (fun f s6 hsp => ?_) (fun _ _ z => False.elim z)
          have end_ : ∀ {σ6 : L2.St} {H6 : Hp} {Q : Shared → Prop}, Inv (X.suite a ((a, oe4) :: (X.pn ++ pins))) [] σ6 H6 s6 → (∀ s7, Inv X pins (σ6.set i none) H6 s7 → Q s7) →
              wpAny (model X.prog X.w) X.A (do bindName X.env n .none; unbindBehindTheSuite X.env n pos') (fun _ s7 => Q s7) X.xe s6 := fun {σ6 H6 Q} S6 hq => gone_ok (S6.unsuite ok) hN hi hln hq
          cases f with
          | next =>
            obtain ⟨σ6, H6, S6, q6⟩ := hsp
            exact end_ S6 fun s7 J7 => ⟨_, _, J7, q6⟩
          | brk =>
            obtain ⟨σ6, H6, S6, q6⟩ := hsp
            exact end_ S6 fun s7 J7 => ⟨_, _, J7, q6⟩
          | cont =>
            obtain ⟨σ6, H6, S6, q6⟩ := hsp
            exact end_ S6 fun s7 J7 => ⟨_, _, J7, q6⟩
          | ret u =>
            obtain ⟨v6, σ6, H6, S6, r6, q6⟩ := hsp
            exact end_ S6 fun s7 J7 => ⟨_, _, _, J7, r6, q6⟩
        | false =>
          show wpAny _ X.A (handleBy (.ref a) X.env hds2) _ _ _
          exact ih (hno rfl)
    exact go hh w
  · cases f with
    | next =>
      obtain ⟨σ', H', J', q⟩ := hsp
      exact wpAny_execs_nil ⟨σ', H', J'.ofTry ok, q⟩
    | brk =>
      obtain ⟨σ', H', J', q⟩ := hsp
      exact ⟨σ', H', J'.ofTry ok, q⟩
    | cont =>
      obtain ⟨σ', H', J', q⟩ := hsp
      exact ⟨σ', H', J'.ofTry ok, q⟩
    | ret u =>
      obtain ⟨v, σ', H', J', r, q⟩ := hsp
      exact ⟨v, σ', H', J'.ofTry ok, r, q⟩
end
end Bk
/-! The reading of a comprehension with two for. -/
namespace Tk
open PySem PySem.Spec PyProof.Rows L2
theorem in_tup {K : PySem.W.Frag} {b : Addr} {ys : List V} {g1 : TG} {tt1 : TT} {te : TE} {vs1 : List Nat} {σ2 : L2.St} {H4 : Hp} {D : Addr} {Nx : Hp → Prop} (Pv : Nat → Hp → Prop) (h0 : Pv 0 H4) (hl : ∀ j H, j ≤ ys.length → Pv j H → SqT K H b ys)
    (hs : ∀ j x H, ys[j]? = some x → Pv j H → g1 x (wipe σ2 vs1) H fun σ3 H5 => wipe σ3 vs1 = wipe σ2 vs1 ∧ tt1 σ3 H5 fun c H6 =>
      if c = true then te σ3 H6 fun y H7 => ∃ acc, H7 D = some (.lst acc) ∧ acc.length < sizeLine ∧ Pv (j + 1) (upd H7 D (.lst (acc ++ [y]))) else Pv (j + 1) H6) (hd : ∀ H, Pv ys.length H → Nx H) :
    ∃ W1 : Nat → Nat → Hp → Prop, (∃ m, W1 0 m H4) ∧ ∀ j k H, W1 j k H →
      ((Itt K b).stop j H ∧ Nx H) ∨ ((Itt K b).go j H ∧ ∃ Nx1 : Hp → Prop, (∀ H', Nx1 H' → ∃ k', k' < k ∧ W1 (j + 1) k' H') ∧ ∀ x H', (Itt K b).yld j H x H' → g1 x (wipe σ2 vs1) H' fun σ3 H5 => wipe σ3 vs1 = wipe σ2 vs1 ∧ tt1 σ3 H5 fun b H6 =>
        if b = true then te σ3 H6 fun y H7 => ∃ acc, H7 D = some (.lst acc) ∧ acc.length < sizeLine ∧ Nx1 (upd H7 D (.lst (acc ++ [y]))) else Nx1 H6) := by
  refine ⟨fun j m H => m = ys.length - j ∧ j ≤ ys.length ∧ Pv j H, ⟨ys.length, by simp, Nat.zero_le _, h0⟩, ?_⟩
  rintro j m H ⟨rfl, hj, p⟩
  have q := hl j H hj p
  by_cases lt : j < ys.length
  · refine .inr ⟨⟨ys, ys[j], q, by simp [lt]⟩, Pv (j + 1), fun H' p' => ⟨ys.length - (j + 1), by omega, rfl, lt, p'⟩, fun x H' y => ?_⟩
    obtain ⟨e, y⟩ := y
    subst e
    exact hs j x _ (y ys q) p
  · have e : j = ys.length := by omega
    subst e
    exact .inl ⟨⟨ys, q, Nat.le_refl _⟩, hd H p⟩
theorem lc2_list {K : PySem.W.Frag} {a : Addr} {xs : List V} {g : TG} {tt : TT} {wi1 : TI} {g1 : TG} {tt1 : TT} {te : TE} {vs vs1 : List Nat} {σ : L2.St} {H1 : Hp} {D : Addr} {Qd : Hp → Prop} (Pv : Nat → Hp → Prop) (h0 : Pv 0 (upd H1 D (.lst []))) (hl : ∀ i H, i ≤ xs.length → Pv i H → SqL K H a xs)
    (hs : ∀ i x H, xs[i]? = some x → Pv i H → g x (wipe σ vs) H fun σ2 H2 => wipe σ2 vs = wipe σ vs ∧ tt σ2 H2 fun b H3 =>
      if b = true then wi1 σ2 H3 fun J1 H4 => ∃ W1 : Nat → Nat → Hp → Prop, (∃ m, W1 0 m H4) ∧ ∀ j k H, W1 j k H →
      (J1.stop j H ∧ Pv (i + 1) H) ∨ (J1.go j H ∧ ∃ Nx1 : Hp → Prop, (∀ H', Nx1 H' → ∃ k', k' < k ∧ W1 (j + 1) k' H') ∧ ∀ x H', J1.yld j H x H' → g1 x (wipe σ2 vs1) H' fun σ3 H5 => wipe σ3 vs1 = wipe σ2 vs1 ∧ tt1 σ3 H5 fun b H6 =>
        if b = true then te σ3 H6 fun y H7 => ∃ acc, H7 D = some (.lst acc) ∧ acc.length < sizeLine ∧ Nx1 (upd H7 D (.lst (acc ++ [y]))) else Nx1 H6) else Pv (i + 1) H3) (hd : ∀ H, Pv xs.length H → Qd H) :
    ∃ W : Nat → Nat → Hp → Prop, (∃ m, W 0 m (upd H1 D (.lst []))) ∧ ∀ i m H, W i m H →
      ((Itl K a).stop i H ∧ Qd H) ∨ ((Itl K a).go i H ∧ ∃ Nx : Hp → Prop, (∀ H', Nx H' → ∃ m', m' < m ∧ W (i + 1) m' H') ∧ ∀ x H', (Itl K a).yld i H x H' → g x (wipe σ vs) H' fun σ2 H2 => wipe σ2 vs = wipe σ vs ∧ tt σ2 H2 fun b H3 =>
        if b = true then wi1 σ2 H3 fun J1 H4 => ∃ W1 : Nat → Nat → Hp → Prop, (∃ m, W1 0 m H4) ∧ ∀ j k H, W1 j k H →
      (J1.stop j H ∧ Nx H) ∨ (J1.go j H ∧ ∃ Nx1 : Hp → Prop, (∀ H', Nx1 H' → ∃ k', k' < k ∧ W1 (j + 1) k' H') ∧ ∀ x H', J1.yld j H x H' → g1 x (wipe σ2 vs1) H' fun σ3 H5 => wipe σ3 vs1 = wipe σ2 vs1 ∧ tt1 σ3 H5 fun b H6 =>
        if b = true then te σ3 H6 fun y H7 => ∃ acc, H7 D = some (.lst acc) ∧ acc.length < sizeLine ∧ Nx1 (upd H7 D (.lst (acc ++ [y]))) else Nx1 H6) else Nx H3) := by
  refine ⟨fun i m H => m = xs.length - i ∧ i ≤ xs.length ∧ Pv i H, ⟨xs.length, by simp, Nat.zero_le _, h0⟩, ?_⟩
  rintro i m H ⟨rfl, hi, p⟩
  have q := hl i H hi p
  by_cases lt : i < xs.length
  · refine .inr ⟨⟨xs, xs[i], q, by simp [lt]⟩, Pv (i + 1), fun H' p' => ⟨xs.length - (i + 1), by omega, rfl, lt, p'⟩, fun x H' y => ?_⟩
    obtain ⟨e, y⟩ := y
    subst e
    exact hs i x _ (y xs q) p
  · have e : i = xs.length := by omega
    subst e
    exact .inl ⟨⟨xs, q, Nat.le_refl _⟩, hd H p⟩
theorem lc2_tup {K : PySem.W.Frag} {a : Addr} {xs : List V} {g : TG} {tt : TT} {wi1 : TI} {g1 : TG} {tt1 : TT} {te : TE} {vs vs1 : List Nat} {σ : L2.St} {H1 : Hp} {D : Addr} {Qd : Hp → Prop} (Pv : Nat → Hp → Prop) (h0 : Pv 0 (upd H1 D (.lst []))) (hl : ∀ i H, i ≤ xs.length → Pv i H → SqT K H a xs)
    (hs : ∀ i x H, xs[i]? = some x → Pv i H → g x (wipe σ vs) H fun σ2 H2 => wipe σ2 vs = wipe σ vs ∧ tt σ2 H2 fun b H3 =>
      if b = true then wi1 σ2 H3 fun J1 H4 => ∃ W1 : Nat → Nat → Hp → Prop, (∃ m, W1 0 m H4) ∧ ∀ j k H, W1 j k H →
      (J1.stop j H ∧ Pv (i + 1) H) ∨ (J1.go j H ∧ ∃ Nx1 : Hp → Prop, (∀ H', Nx1 H' → ∃ k', k' < k ∧ W1 (j + 1) k' H') ∧ ∀ x H', J1.yld j H x H' → g1 x (wipe σ2 vs1) H' fun σ3 H5 => wipe σ3 vs1 = wipe σ2 vs1 ∧ tt1 σ3 H5 fun b H6 =>
        if b = true then te σ3 H6 fun y H7 => ∃ acc, H7 D = some (.lst acc) ∧ acc.length < sizeLine ∧ Nx1 (upd H7 D (.lst (acc ++ [y]))) else Nx1 H6) else Pv (i + 1) H3) (hd : ∀ H, Pv xs.length H → Qd H) :
    ∃ W : Nat → Nat → Hp → Prop, (∃ m, W 0 m (upd H1 D (.lst []))) ∧ ∀ i m H, W i m H →
      ((Itt K a).stop i H ∧ Qd H) ∨ ((Itt K a).go i H ∧ ∃ Nx : Hp → Prop, (∀ H', Nx H' → ∃ m', m' < m ∧ W (i + 1) m' H') ∧ ∀ x H', (Itt K a).yld i H x H' → g x (wipe σ vs) H' fun σ2 H2 => wipe σ2 vs = wipe σ vs ∧ tt σ2 H2 fun b H3 =>
        if b = true then wi1 σ2 H3 fun J1 H4 => ∃ W1 : Nat → Nat → Hp → Prop, (∃ m, W1 0 m H4) ∧ ∀ j k H, W1 j k H →
      (J1.stop j H ∧ Nx H) ∨ (J1.go j H ∧ ∃ Nx1 : Hp → Prop, (∀ H', Nx1 H' → ∃ k', k' < k ∧ W1 (j + 1) k' H') ∧ ∀ x H', J1.yld j H x H' → g1 x (wipe σ2 vs1) H' fun σ3 H5 => wipe σ3 vs1 = wipe σ2 vs1 ∧ tt1 σ3 H5 fun b H6 =>
        if b = true then te σ3 H6 fun y H7 => ∃ acc, H7 D = some (.lst acc) ∧ acc.length < sizeLine ∧ Nx1 (upd H7 D (.lst (acc ++ [y]))) else Nx1 H6) else Nx H3) := by
  refine ⟨fun i m H => m = xs.length - i ∧ i ≤ xs.length ∧ Pv i H, ⟨xs.length, by simp, Nat.zero_le _, h0⟩, ?_⟩
  rintro i m H ⟨rfl, hi, p⟩
  have q := hl i H hi p
  by_cases lt : i < xs.length
  · refine .inr ⟨⟨xs, xs[i], q, by simp [lt]⟩, Pv (i + 1), fun H' p' => ⟨xs.length - (i + 1), by omega, rfl, lt, p'⟩, fun x H' y => ?_⟩
    obtain ⟨e, y⟩ := y
    subst e
    exact hs i x _ (y xs q) p
  · have e : i = xs.length := by omega
    subst e
    exact .inl ⟨⟨xs, q, Nat.le_refl _⟩, hd H p⟩
end Tk
/-! Tuples that are known to have no dict of their own: their methods. -/
namespace Bk
open PySem PySem.Spec PyProof.Rows L2
def TupF (H : Hp) (p : Addr) (xs : List V) : Prop := ∃ o : Obj, H p = some (.frz o (.tup xs)) ∧ o.dict = none
theorem TupF.sq {K : PySem.W.Frag} {H : Hp} {p : Addr} {xs : List V} (h : TupF H p xs) : SqT K H p xs := let ⟨o, e, _⟩ := h; .inl (.inr ⟨o, e⟩)
theorem TupF.ty {K : PySem.W.Frag} {H : Hp} {p : Addr} {xs : List V} (h : TupF H p xs) : TyX K H (.ref p) (.type "tuple") := let ⟨_, e, _⟩ := h; .fTuple e
theorem TupF.same {H H' : Hp} {p : Addr} {xs : List V} (h : TupF H p xs) (s : Same H H') : TupF H' p xs := let ⟨o, e, d⟩ := h; ⟨o, s _ _ e, d⟩
def tTupF (t : TA) : TE := fun σ H Q => t σ H fun xs H1 => xs.length ≤ sizeLine ∧ ∀ (p : Addr) (o : Obj), H1 p = none → o.dict = none → Q (.ref p) (upd H1 p (.frz o (.tup xs)))
section
variable {X : Cx} {es : List Expr} {e : Expr} {t : TA} {pos apos cpos : Pos}
theorem pe_tupF {x1} (h : PA X es t) : PE X (.Tuple es x1 pos) (tTupF t) := by
  refine ⟨fun pins s σ H Q I hq => ?_⟩
  refine wpAny_Tuple_spliced (thn (h.run pos pins s σ H _ I hq) fun us s1 ⟨xs, H1, I1, r, z, q⟩ => ⟨by rw [← r.length]; exact z, ?_⟩)
  have hf : H1 s1.heap.objs.size = none := I1.hok.fresh (Nat.le_refl _)
  refine ⟨.ref s1.heap.objs.size, _, I1.laid (t' := s1.toks) (o := .frz _ (.tup xs)) (fun b u e => Heap.get?_push_of_some _ e) (Nat.le_refl _) ⟨Heap.get?_push_size _ rfl, z, us, r, ⟨_, Heap.get?_push_size _ rfl, rfl, _, rfl⟩⟩, rfl, q _ _ hf rfl⟩
def tBMF (r : V → List V → Hp → VK → Prop) (to : TE) (t : TA) : TE := fun σ H Q => to σ H fun x H1 => (∃ p xs, x = .ref p ∧ TupF H1 p xs) ∧ t σ H1 fun xs H2 => r x xs H2 Q
variable {o : Expr} {to : TE} {name : Str} {id : String} {r : V → List V → Hp → VK → Prop}
theorem pe_bmF (pa : PlainAttrs "tuple") (slot : Slot "tuple" name id) (hty : typeOf (.builtin id) = pure (.type "method_descriptor")) (hm : MtR X id r) (ho : PE X o to) (ha : PA X (e :: es) t)
    (hbase : attributeBase o name X.env (eval o X.env) = eval o X.env := by rfl)
    (hfew : ((backTo cpos (starEach (e :: es) X.env)).all (fun x => !x.1) && (backToKw cpos (keywordEach [] X.env)).all (fun x => x.1.isSome)
      && decide ((e :: es).length + ([] : List Keyword).length + (if ([] : List Keyword).isEmpty then 0 else 1) < 30)) = true := by rfl)
    (hline : (apos.endLine == cpos.line) = true := by rfl) (hs : starEach (e :: es) X.env = (false, eval e X.env) :: starEach es X.env := by rfl) (hplain : (backTo cpos (starEach es X.env)).any (·.1) = false := by rfl) :
    PE X (.Call (.Attribute o name apos) (e :: es) [] cpos) (tBMF r to t) := by
  refine ⟨fun pins s σ H Q I h => ?_⟩
  refine wpAny_Call_method_late hbase hfew hline rfl (thn (ho.run pins s σ H _ I h) fun v s1 ⟨x, H1, I1, r1, ⟨p, xs, ex, ob, eo, dn⟩, q1⟩ => ?_)
  subst ex
  obtain rfl : v = Value.ref p := r1
  obtain ⟨hget, _, its, _, o2, h2, hc, _⟩ : ObjOk X.prog X.w H1 s1.heap p (.frz ob (.tup xs)) := I1.hok p _ eo
  have e2 : o2 = ob := by
    rw [hget] at h2
    exact (Option.some.inj h2).symm
  subst e2
  refine ⟨"tuple", id, pa, slot, hty, ⟨o2, hget, hc⟩, fun a ea => ?_, ?_⟩
  · injection ea with ea
    subst ea
    exact ⟨o2, hget, dn⟩
  have hA := ha.run cpos pins s1 σ H1 _ I1 q1
  rw [hs] at hA ⊢
  refine Calls.callWith_builtin (by show (false || (backTo cpos (starEach es X.env)).any (·.1)) = false; rw [hplain] <;> rfl) (Calls.evalArgs_plain ?_)
  exact thn hA fun us s2 ⟨vs, H2, I2, r2, q2⟩ => hm pins s2 σ H2 (.ref p) vs _ us Q I2 rfl r2 q2
end
end Bk
/-! Own special methods of an own class, by their promises. -/
namespace Ow
open PySem PySem.Spec PyProof.Rows L2
section
variable {X : Cx} {CX : CXT} {k : Nat} {C f : Addr} {fd : FuncData} {ps : List Str} {sp : Sp} {E : XK}
/-- a def run somewhere below the body -/
theorem run_at {B : Around} {pins : List (Addr × Obj)} {σ : L2.St} {H : Hp} {s : Shared} {Q : VK} {us : List Value} {vs : List V} (F : FnOk X.prog X.w X.K X.mg X.base CX k f fd ps sp) (hr : Room k B) (fr : B.frames = X.A.frames) (hb : Binds X.K fd ps []) (hx : Passes CX X E)
    (I : Inv X pins σ H s) (r : Vals vs us) (h : sp vs H Q E) : wpAny (model X.prog X.w) B (call (.ref f) us) (EP X pins σ Q) X.xe s := by
  have e := I.env0
  have e1 : Env0 X.prog X.w X.K X.mg X.base B X.stack s H := { e with frames := fr.trans e.frames }
  have hl : us.length = ps.length := r.length.symm.trans (F.len _ _ _ _ h)
  have b1 := hb s us I.kIn ((congrArg List.length (List.append_nil us)).trans hl)
  rw [List.append_nil] at b1
  refine wpAny_call (codeAny_mono (F.run B X.stack s H ⟨us, []⟩ us vs Q E hr e1 b1 r h) fun res s2 q => ?_)
  match res, q with
  | .error er, q => exact hx pins σ H s er s2 I q
  | .ok (.ret _), q => exact I.after q
/-- what the library's rules ask of an instance -/
theorem inst {pins : List (Addr × Obj)} {σ : L2.St} {H : Hp} {s : Shared} {a dx : Addr} {fs : List (Str × V)} (I : Inv X pins σ H s) (e : H a = some (.ins C dx fs)) : ∃ od, PySem.W.InstAt s.heap a (PySem.W.instObj C dx) C (some od) := by
  obtain ⟨mA, J, _⟩ := ins_get I.hok e
  obtain ⟨od, J2, _⟩ := J.look
  exact ⟨od, J2⟩
/-- an own method by its name -/
structure Spc (K : PySem.W.Frag) (C f : Addr) (m : Str) : Prop where
  at_ : PySem.W.findIn K (.ref C) m = some (some (.ref f))
  fn : PySem.W.isFn K (.ref f) = true
def rLenO (C : Addr) (sp : Sp) (E : XK) : List V → Hp → VK → Prop := fun xs H Q => ∃ a dx fs, xs = [.ref a] ∧ H a = some (.ins C dx fs) ∧ sp [.ref a] H (fun v H2 => ∃ n : Int, v = .int n ∧ 0 ≤ n ∧ n < 2 ^ 63 ∧ Q (.int n) H2) E
theorem call_lenO (S : Spc X.K C f "__len__") (F : FnOk X.prog X.w X.K X.mg X.base CX k f fd ps sp) (hr : Room (k + 1) X.A) (hb : Binds X.K fd ps []) (hx : Passes CX X E) : CallR X (.builtin "len") (rLenO C sp E) := by
  intro pins s σ H xs us Q I r h
  obtain ⟨a, dx, fs, rfl, ea, h⟩ := h
  obtain ⟨u, rfl, rx⟩ := vals1 r
  cases rx
  obtain ⟨od, J⟩ := inst I ea
  obtain ⟨m, hF⟩ := I.fr
  refine PySem.W.len_K hF I.ok.mod.kin J S.at_ S.fn (thn (run_at F hr.in1 rfl hb hx I r h) fun v s2 hv => ?_)
  obtain ⟨x, H2, I2, rx, n, rfl, h0, h1, q⟩ := hv
  obtain ⟨t, rfl⟩ := rx
  exact ⟨⟨h0, h1⟩, .int n, H2, I2.tok _, ⟨_, rfl⟩, q⟩
def rStrO (C : Addr) (sp : Sp) (E : XK) : List V → Hp → VK → Prop := fun xs H Q => ∃ a dx fs, xs = [.ref a] ∧ H a = some (.ins C dx fs) ∧ sp [.ref a] H (fun v H2 => ∃ z : Str, v = .str z ∧ Q (.str z) H2) E
theorem call_strO (S : Spc X.K C f "__str__") (F : FnOk X.prog X.w X.K X.mg X.base CX k f fd ps sp) (hr : Room (k + 2) X.A) (hb : Binds X.K fd ps []) (hx : Passes CX X E) : CallR X (.type "str") (rStrO C sp E) := by
  intro pins s σ H xs us Q I r h
  obtain ⟨a, dx, fs, rfl, ea, h⟩ := h
  obtain ⟨u, rfl, rx⟩ := vals1 r
  cases rx
  obtain ⟨od, J⟩ := inst I ea
  refine PySem.W.kso_call hr.in1.in1.units0 I.kIn J S.at_ S.fn (thn (run_at F hr.in1.in1 rfl hb hx I r h) fun v s2 hv => ?_)
  obtain ⟨x, H2, I2, rx, z, rfl, q⟩ := hv
  obtain ⟨t, rfl⟩ := rx
  exact ⟨.str z, H2, I2, ⟨_, rfl⟩, q⟩
/-- x in an instance -/
def rInO (C : Addr) (sp : Sp) (E : XK) : R2 := fun x y H Q => ∃ a dx fs, y = .ref a ∧ H a = some (.ins C dx fs) ∧ sp [.ref a, x] H (fun v H2 => ∃ b, v = .bl b ∧ Q (.bl b) H2) E
theorem op_inO (S : Spc X.K C f "__contains__") (F : FnOk X.prog X.w X.K X.mg X.base CX k f fd ps sp) (hr : Room k X.A) (hb : Binds X.K fd ps []) (hx : Passes CX X E) : OpR X (compareOp .In) (rInO C sp E) := by
  intro pins s σ H x y v u Q I rx ry h
  obtain ⟨a, dx, fs, rfl, ea, h⟩ := h
  cases ry
  obtain ⟨od, J⟩ := inst I ea
  obtain ⟨m, hF⟩ := I.fr
  refine PySem.W.in_K hF I.ok.mod.kin J S.at_ S.fn (thn (run_at (vs := [.ref a, x]) F hr rfl hb hx I (.cons rfl (.cons rx .nil)) h) fun w s2 hv => ?_)
  obtain ⟨z, H2, I2, rz, b, rfl, q⟩ := hv
  cases rz
  exact wpAny_truthy_bool ⟨.bl b, H2, I2, rfl, q⟩
/-- instance[i] -/
def tSubO (C : Addr) (sp : Sp) (E : XK) (ta tb : TE) : TE := fun σ H Q => ta σ H fun x H1 => tb σ H1 fun y H2 => ∃ a dx fs, x = .ref a ∧ H2 a = some (.ins C dx fs) ∧ sp [.ref a, y] H2 Q E
theorem pe_subO {a b : Expr} {ta tb : TE} {pos : Pos} (S : Spc X.K C f "__getitem__") (hfn : PySem.W.fnIn X.K f = true) (F : FnOk X.prog X.w X.K X.mg X.base CX k f fd ps sp) (hr : Room (k + 1) X.A) (hb : Binds X.K fd ps []) (hx : Passes CX X E) (he : PE X a ta) (hi : PE X b tb)
    (hs : ∀ x i, subscripted b true (.ref x) i = runValue (.builtin "lifetime.subscript" ⟨[.ref x, i], []⟩) := by intro _ _; with_unfolding_all rfl) : PE X (.Subscript a b pos) (tSubO C sp E ta tb) := by
  refine ⟨fun pins s σ H Q I h => Subscript_ (binT he hi I h fun v u s2 x y H2 I2 rx ry h2 => ?_)⟩
  obtain ⟨p, dx, fs, rfl, ea, h2⟩ := h2
  cases rx
  obtain ⟨od, J⟩ := inst I2 ea
  obtain ⟨m, hF⟩ := I2.fr
  exact PySem.W.sub_K hF I2.ok.mod.kin J S.at_ hfn S.fn (run_at (vs := [.ref p, y]) F hr.in1 rfl hb hx I2 (.cons rfl (.cons ry .nil)) h2) (hs _ _)
/-- the type of the other side, as == asks for it -/
def Oth (X : Cx) (C : Addr) (H : Hp) (y : V) : Prop := (∃ b dy gs, y = .ref b ∧ H b = some (.ins C dy gs)) ∨ ((∃ z, y = .str z) ∧ PySem.W.subIn X.K (.type "str") (.ref C) = some false) ∨ (y = .non ∧ PySem.W.subIn X.K (.type "NoneType") (.ref C) = some false)
theorem Oth.kind {H : Hp} {y : V} {u : Value} {pins : List (Addr × Obj)} {σ : L2.St} {s : Shared} (I : Inv X pins σ H s) (o : Oth X C H y) (r : RelV y u) : ∃ tb, PySem.W.Looks (model X.prog X.w) s.heap (typeOf u) tb ∧ PySem.W.notFirst X.K C tb = true := by
  rcases o with ⟨b, dy, gs, rfl, eb⟩ | ⟨⟨z, rfl⟩, hs⟩ | ⟨rfl, hs⟩
  · cases r
    obtain ⟨od, J⟩ := inst I eb
    exact ⟨_, J.type, by simp [PySem.W.notFirst]⟩
  · obtain ⟨t, rfl⟩ := r
    exact ⟨.type "str", .of_pure rfl, by simp [PySem.W.notFirst, hs]⟩
  · cases r
    exact ⟨.type "NoneType", .of_pure rfl, by simp [PySem.W.notFirst, hs]⟩
def rCmpO (X : Cx) (C : Addr) (sp : Sp) (E : XK) : R2 := fun x y H Q => ∃ a dx fs, x = .ref a ∧ H a = some (.ins C dx fs) ∧ Oth X C H y ∧ sp [.ref a, y] H (fun v H2 => ∃ b, v = .bl b ∧ Q (.bl b) H2) E
theorem cmpO {op : CmpOp} {m : Str} (hm : (cmpInfo op).2.1 = m) (S : Spc X.K C f m) (F : FnOk X.prog X.w X.K X.mg X.base CX k f fd ps sp) (hr : Room k X.A) (hb : Binds X.K fd ps []) (hx : Passes CX X E) : OpR X (richCompare op) (rCmpO X C sp E) := by
  intro pins s σ H x y v u Q I rx ry h
  obtain ⟨a, dx, fs, rfl, ea, o, h⟩ := h
  cases rx
  obtain ⟨od, J⟩ := inst I ea
  obtain ⟨mm, hF⟩ := I.fr
  obtain ⟨tb, lb, nb⟩ := o.kind I ry
  refine PySem.W.cmp_K hr.units0 hF I.ok.mod.kin J lb nb (by rw [hm]; exact S.at_) S.fn (thn (run_at (vs := [.ref a, y]) F hr rfl hb hx I (.cons rfl (.cons ry .nil)) h) fun w s2 hv => ?_)
  obtain ⟨z, H2, I2, rz, b, rfl, q⟩ := hv
  cases rz
  exact ⟨.bl b, H2, I2, rfl, q⟩
theorem op_eqO (S : Spc X.K C f "__eq__") (F : FnOk X.prog X.w X.K X.mg X.base CX k f fd ps sp) (hr : Room k X.A) (hb : Binds X.K fd ps []) (hx : Passes CX X E) : OpR X (compareOp .Eq) (rCmpO X C sp E) := cmpO (op := .Eq) rfl S F hr hb hx
end
end Ow
namespace Ow
open PySem PySem.W PySem.Calls PyProof.Rows
section
variable {prog : Program} {w : World} {A : Around} {E : Value → Shared → Prop} {s : Shared} {K : Frag} {x C L f : Addr} {h₀ : Heap} {m : Str → Option Value} {ox : Obj} {od : Option Obj} {b tb : Value}
theorem bound_b {M : Model} {name : Str} {id : String} {args : List Value} {Q : Option Value → Shared → Prop} (X : K.In s.heap) (I : InstAt s.heap x ox C od) (hs : findIn K (.ref C) name = some (some (.builtin id)))
    (hb : ∀ self, bindSpecial (.builtin id) self = pure (.builtin id, [self])) (h : wpAny M A (call (.builtin id) (.ref x :: args)) (fun v => Q (some v)) E s) : wpAny M A (callSpecialIfBound? (.ref x) name args) Q E s := by
  have fin : wpAny M A (call (.builtin id) ([.ref x] ++ args) >>= fun v => pure (some v)) Q E s := wpAny_bind (wpAny_mono h (fun _ _ z => wpAny_pure z) fun _ _ z => z)
  have bd := (Looks.of_pure (M := M) (h := s.heap) (hb (.ref x)))
  simp only [callSpecialIfBound?, bindSpecialIfBound?]
  refine wpAny_holding (wpAny_bind (wpAny_bind (wpAny_bind (I.type.here ((looks_findIn X hs).here (wpAny_bind (wpAny_askSetting (wpAny_ite ?_))))))))
  split
  · exact wpAny_bind (bd.here (wpAny_pure (by exact fin)))
  · exact wpAny_tryCatch (wpAny_bind (bd.here (wpAny_pure (by exact fin))))
open Builtin in
/-- != by an own == -/
theorem ne_K {Q : Value → Shared → Prop} (hu : A.units < cLine) (hu1 : A.in1.units < cLine) (F : Fr h₀ L s.heap m) (X₀ : K.In h₀) (I : InstAt s.heap x ox C od) (hb : Looks (model prog w) s.heap (typeOf b) tb) (hn : notFirst K C tb = true)
    (hne : findIn K (.ref C) "__ne__" = some (some (.builtin "object.__ne__"))) (he : findIn K (.ref C) "__eq__" = some (some (.ref f))) (hf : isFn K (.ref f) = true) (hm : mroIn K C (.type "object") = some true)
    (h : wpAny (model prog w) A.in1 (call (.ref f) [.ref x, b]) (fun v s2 => ∃ r, v = .bool r ∧ Q (.bool (!r)) s2) E s) : wpAny (model prog w) A (richCompare .NotEq (.ref x) b) Q E s := by
  have X := X₀.keeps F.keep
  have body : wpAny (model prog w) A.in1 (Builtin.«object.__ne__» ⟨[.ref x, b], []⟩) (fun fin s2 => ∃ r, fin = .done (.ret (.bool r)) ∧ Q (.bool r) s2) E s := by
    unfold Builtin.«object.__ne__»
    refine wpAny_bind (m := slotArgs "__ne__" 1 _) (wpAny_pure (wpAny_bind (m := cRoomFor _ _) (wpAny_cRoomFor hu1 (wpAny_bind (m := callSpecialIfBound? (.ref x) (Str.ofString "__eq__") [b]) (ifBound_K X I he hf (wpAny_mono h (fun v s2 hv => ?_) fun _ _ z => z))))))
    obtain ⟨r, rfl, q⟩ := hv
    exact wpAny_bind (m := truthy (.bool r)) (wpAny_truthy_bool (wpAny_pure ⟨_, rfl, q⟩))
  have one : wpAny (model prog w) A (tryCompare (.ref x) "__ne__" b) (fun r s2 => ∃ v, r = some v ∧ Q v s2) E s := by
    unfold tryCompare
    refine wpAny_bind (bound_b X I hne PySem.F.slot_object_ne.bind (wpAny_call (codeAny_call_builtin PySem.F.slot_object_ne.plain PySem.F.entry_object_ne
      (check_slot (i := "object.__ne__") (owner := "object") (n := "__ne__") (by decide +kernel) (by decide +kernel) (I.type.andThen (looks_mroIn X hm)) (PySem.F.args_object_ne_2 _ _) (wpAny_mono body (fun fin s2 hv => ?_) fun _ _ z => z)))))
    obtain ⟨r, rfl, q⟩ := hv
    exact wpAny_pure ⟨_, rfl, q⟩
  unfold richCompare
  simp only [oneThing_ref]
  refine wpAny_holding (wpAny_bind (wpAny_cRoomFor hu (wpAny_bind (I.type.here (wpAny_bind (hb.here ?_))))))
  split
  · rename_i q
    have e : subIn K tb (.ref C) = some false := (Bool.or_eq_true_iff.mp hn).elim (fun e => absurd (beq_iff_eq.mp e).symm (by simpa using q)) beq_iff_eq.mp
    refine wpAny_bind ((looks_subIn X e).here ?_)
    simp only [Bool.false_eq_true, if_false]
    exact wpAny_bind (wpAny_mono one (fun r s2 ⟨v, e, q⟩ => by subst e; exact wpAny_pure q) fun _ _ z => z)
  · refine wpAny_bind (wpAny_pure ?_)
    simp only [Bool.false_eq_true, if_false]
    exact wpAny_bind (wpAny_mono one (fun r s2 ⟨v, e, q⟩ => by subst e; exact wpAny_pure q) fun _ _ z => z)
end
end Ow
namespace Ow
open PySem PySem.Spec PyProof.Rows L2
section
variable {X : Cx} {CX : CXT} {k : Nat} {C f : Addr} {fd : FuncData} {ps : List Str} {sp : Sp} {E : XK}
/-- the class takes != from its own == -/
structure NeC (K : PySem.W.Frag) (C f : Addr) : Prop where
  eq : Spc K C f "__eq__"
  ne : PySem.W.findIn K (.ref C) "__ne__" = some (some (.builtin "object.__ne__"))
  obj : PySem.W.mroIn K C (.type "object") = some true
def rNeO (X : Cx) (C : Addr) (sp : Sp) (E : XK) : R2 := fun x y H Q => ∃ a dx fs, x = .ref a ∧ H a = some (.ins C dx fs) ∧ Oth X C H y ∧ sp [.ref a, y] H (fun v H2 => ∃ b, v = .bl b ∧ Q (.bl (!b)) H2) E
theorem op_neO (S : NeC X.K C f) (F : FnOk X.prog X.w X.K X.mg X.base CX k f fd ps sp) (hr : Room (k + 1) X.A) (hb : Binds X.K fd ps []) (hx : Passes CX X E) : OpR X (compareOp .NotEq) (rNeO X C sp E) := by
  intro pins s σ H x y v u Q I rx ry h
  obtain ⟨a, dx, fs, rfl, ea, o, h⟩ := h
  cases rx
  obtain ⟨od, J⟩ := inst I ea
  obtain ⟨mm, hF⟩ := I.fr
  obtain ⟨tb, lb, nb⟩ := o.kind I ry
  refine ne_K hr.units0 hr.in1.units0 hF I.ok.mod.kin J lb nb S.ne S.eq.at_ S.eq.fn S.obj (thn (run_at (vs := [.ref a, y]) F hr.in1 rfl hb hx I (.cons rfl (.cons ry .nil)) h) fun w s2 hv => ?_)
  obtain ⟨z, H2, I2, rz, b, rfl, q⟩ := hv
  cases rz
  exact ⟨b, rfl, .bl (!b), H2, I2, rfl, q⟩
/-- an instance's truth by __bool__ -/
theorem call_boolO (S : Spc X.K C f "__bool__") (F : FnOk X.prog X.w X.K X.mg X.base CX k f fd ps sp) (hr : Room (k + 2) X.A) (hb : Binds X.K fd ps []) (hx : Passes CX X E) : CallR X (.type "bool") (fun xs H Q => ∃ a dx fs, xs = [.ref a] ∧ H a = some (.ins C dx fs) ∧ sp [.ref a] H (fun v H2 => ∃ b, v = .bl b ∧ Q (.bl b) H2) E) := by
  intro pins s σ H xs us Q I r h
  obtain ⟨a, dx, fs, rfl, ea, h⟩ := h
  obtain ⟨u, rfl, rx⟩ := vals1 r
  cases rx
  obtain ⟨od, J⟩ := inst I ea
  refine callType_codes (T := "bool") (Bi := Builtin.«object.__init__») (Q₁ := fun r s₁ => ∃ b, r = .bool b ∧ EP X pins σ Q r s₁) PySem.F.called_bool (PySem.F.typeCall_bool_1 _) PySem.F.entry_object_init ?_ ?_
  · refine codeAny_of_tree ?_
    show wpAny _ X.A.in1.in1 (do checkBuiltinCall "bool.__new__" ⟨[.type "bool", .ref a], []⟩; again (.builtin "bool.__new__" ⟨[.type "bool", .ref a], []⟩)) _ _ s
    refine wpAny_bind (wpAny_of_eq (PySem.F.newCall_bool_1 _) (wpAny_pure ⟨plainId_quiet (by decide +kernel) _, codeAny_builtin PySem.F.entry_bool_new ?_⟩))
    rw [Around.under_plainId (by decide +kernel) _]
    have f1 := PySem.F.conv_sub_bool
    obtain ⟨m, hF⟩ := I.fr
    have tr : wpAny (model X.prog X.w) X.A.in1.in1 (truthy (.ref a)) (fun b s2 => EP X pins σ Q (.bool b) s2) X.xe s := PySem.W.truthy_K hF I.ok.mod.kin J S.at_ S.fn (thn (run_at F hr.in1.in1 rfl hb hx I r h) fun v s2 hv => by
      obtain ⟨z, H2, I2, rz, b, rfl, q⟩ := hv
      cases rz
      exact ⟨.bl b, H2, I2, rfl, q⟩)
    refine wpAny_bind (m := isType (.type "bool")) (wpAny_pure (wpAny_bind (m := isSubtype _ _) (wpAny_of_eq f1 ?_)))
    refine wpAny_bind (m := someArgs "bool" 0 1 _) (wpAny_pure ?_)
    exact wpAny_bind (wpAny_mono tr (fun b s2 q => wpAny_pure ⟨_, rfl, q⟩) fun _ _ z => z)
  · rintro obj s₁ ⟨b, rfl, hq⟩
    exact ⟨PySem.typeIs_bool _ _, PySem.F.args_object_init_2 _ _, object_init_meets PySem.F.called_bool.init.lookup PySem.F.called_bool.made (by decide) X.prog X.w X.A.in1 _ s₁ ⟨PySem.typeIs_bool _ _, rfl, hq⟩⟩
end
end Ow
namespace K1
open PySem PySem.Spec PyProof.Rows L2
def topS (i : Nat) : Stmt := PySem.Challenge.pw_soleinstances_k57_shapes_let.main.body.getD i (.Pass ⟨0, 0, 0, 0⟩)
abbrev sInvB : Stmt := topS 3
abbrev sInvP : Stmt := topS 4
abbrev sBook : Stmt := topS 7
abbrev sIsWord : Stmt := topS 9
abbrev sIndex : Stmt := topS 12
abbrev sChkB : Stmt := topS 14
abbrev sChkP : Stmt := topS 15
abbrev sReason : Stmt := topS 16
abbrev sShapes : Stmt := topS 19
abbrev sReasonOf : Stmt := topS 20
abbrev sLetBy : Stmt := topS 21
abbrev sDraw : Stmt := topS 23
abbrev sTake : Stmt := topS 24
abbrev sNewWords : Stmt := topS 25
abbrev sMade : Stmt := topS 26
abbrev sLets : Stmt := topS 27
abbrev sLShapes : Stmt := topS 28
abbrev sLReason : Stmt := topS 29
abbrev sAskS : Stmt := topS 30
abbrev sAskR : Stmt := topS 31
abbrev sLaw : Stmt := topS 32
/-- a statement of a class's body -/
def inCls (c : Stmt) (i : Nat) : Stmt := match c with | .ClassDef (body := b) .. => b.getD i (.Pass ⟨0, 0, 0, 0⟩) | _ => .Pass ⟨0, 0, 0, 0⟩
abbrev mInit : Stmt := inCls sBook 0
abbrev mOwner : Stmt := inCls sBook 5
abbrev mLook : Stmt := inCls sBook 7
abbrev mChoose : Stmt := inCls sBook 9
abbrev mEarly : Stmt := inCls sBook 13
abbrev mEq : Stmt := inCls sBook 24
abbrev mErr : Stmt := inCls sInvB 0
abbrev mErrP : Stmt := inCls sInvP 0
end K1
namespace K1
open PySem PySem.Spec PyProof.Rows L2 Bk
/-- the words of a book -/
structure Wds where
  o : Str
  l : Str
  c : Str
  n : Str
  e : Str
def oW : List Str := ["early", "first", "any", "anybody"]
def lW : List Str := ["apart", "ladder", "same", "nothing"]
def cW : List Str := ["sole", "special", "first"]
def nW : List Str := ["behind", "ahead"]
def eW : List Str := ["refused", "wait", "once"]
def prts : List Str := ["owner", "look", "choose", "wants", "early"]
def Wds.list (w : Wds) : List Str := [w.o, w.l, w.c, w.n, w.e]
def Wds.Ok (w : Wds) : Prop := w.o ∈ oW ∧ w.l ∈ lW ∧ w.c ∈ cW ∧ w.n ∈ nW ∧ w.e ∈ eW
def Wds.kvs (w : Wds) : List (Key × V) := [(.inr "owner", .str w.o), (.inr "look", .str w.l), (.inr "choose", .str w.c), (.inr "wants", .str w.n), (.inr "early", .str w.e)]
/-- the words that a switch may have -/
def optW (p : Str) : List Str := if p = "owner" then oW else if p = "look" then lW else if p = "choose" then cW else if p = "wants" then nW else eW
/-- the words of the switches as they stand in the module -/
structure SWF (K : PySem.W.Frag) (mg : Str → Option Value) (w : World) (D : Addr) : Prop where
  g : mg "SWITCHES" = some (.ref D)
  d : WD K w D prts
  it : ∀ p ∈ prts, ∃ T, KDct K w D p (.ref T) ∧ ∀ H, SqT K H T ((optW p).map V.str)
/-- what is known of the class of books -/
structure BF (K : PySem.W.Frag) (mg : Str → Option Value) (CB : Addr) : Prop where
  cl : Cls K CB
  nC : NoAttr K CB "chosen"
  gB : mg "Book" = some (.ref CB)
  ha : PySem.W.findIn K (.ref CB) "__class__" = some (some (.builtin "object.__class__"))
  hn : PySem.W.specialIn K (.builtin "object.__class__") "__get__" = some (some (.builtin "getset_descriptor.__get__"))
  htk : PySem.W.takesIn K (.builtin "object.__class__") = some true
  hm : PySem.W.mroIn K CB (.type "object") = some true
  own : PySem.W.kitOne K (.ref CB) (.ref CB) = some true
/-- x is a book with these words -/
def BookAt (CB : Addr) (H : Hp) (x : Addr) (w : Wds) : Prop := ∃ dx d, H x = some (.ins CB dx [("chosen", .ref d)]) ∧ H d = some (.dK w.kvs)
theorem BookAt.same {CB : Addr} {H H' : Hp} {x : Addr} {w : Wds} (h : BookAt CB H x w) (s : Same H H') : BookAt CB H' x w := let ⟨dx, d, a, b⟩ := h; ⟨dx, d, s _ _ a, s _ _ b⟩
/-- the module's names -/
structure Tx (mg : Str → Option Value) : Prop where
  len : mg "len" = none
  isi : mg "isinstance" = none
  str : mg "str" = none
  int : mg "int" = none
  range : mg "range" = none
  max : mg "max" = none
  min : mg "min" = none
  tuple : mg "tuple" = none
  list : mg "list" = none
  bool : mg "bool" = none
/-- a value that is no text -/
def NoStr (K : PySem.W.Frag) (H : Hp) (x : V) : Prop := ∃ t : String, TyX K H x (.type t) ∧ kitB t "str" = some false
theorem in_strs (z : Str) (l : List Str) : inV (.str z) (l.map V.str) = decide (z ∈ l) := by
  unfold inV
  induction l with
  | nil => rfl
  | cons a l ih =>
    rw [List.map_cons, List.any_cons, ih]
    show ((a == z) || decide (z ∈ l)) = _
    by_cases h : a = z
    · subst h
      simp
    · rw [beq_eq_false_iff_ne.mpr h, Bool.false_or, decide_eq_decide]
      constructor
      · intro q
        exact List.mem_cons_of_mem _ q
      · intro q
        rcases List.mem_cons.mp q with e | q
        · exact absurd e.symm h
        · exact q
theorem scIsWord : FnScope ["part", "value"] ["part", "value"] (defScope sIsWord) := ⟨rfl, rfl, rfl, by decide +kernel, rfl, by decide +kernel, by decide +kernel⟩
def spIsWord (K : PySem.W.Frag) : Sp := fun vs H Q _ => ∃ (p : Str) (x : V), vs = [.str p, x] ∧ p ∈ prts ∧ ((∃ z, x = .str z ∧ Q (.bl (decide (z ∈ optW p))) H) ∨ (NoStr K H x ∧ Q (.bl false) H))
section
variable {P : Program} {w : World} {K : PySem.W.Frag} {mg : Str → Option Value} {base : Heap} {CB D : Addr}
theorem ok_isWord {f : Addr} {fd : FuncData} (F : Fun K "_is_word" "_is_word" sIsWord f fd) (T : Tx mg) (S : SWF K mg w D) : FnOk P w K mg base CX0 1 f fd ["part", "value"] (spIsWord K) := by
  refine F.ok scIsWord (fun vs H Q E h => ?_) (fun cdv A outer s H vs Q E hr h => ?_)
  · obtain ⟨p, x, rfl, _⟩ := h
    rfl
  · obtain ⟨p, x, rfl, hp, h⟩ := h
    refine ⟨_, pss_one (ps_ret (pe_and (pe_callB call_isi (by rfl) T.isi (by decide +kernel) (pa_cons (pv 1) (pa_cons (pe_bltn (v := .ty "str") (u := .type "str") (by rfl) T.str (by decide +kernel) rfl) pa_nil)))
      (pe_one (pe_cmpR op_in_seq (pv 1) (pe_ix ix_kdict (pe_glob (v := .ref D) (by rfl) S.g rfl) (pv 0) (fun _ _ => rfl)) (by rfl))))), ?_⟩
    obtain ⟨TT, hk, ht⟩ := S.it p hp
    rcases h with ⟨z, rfl, q⟩ | ⟨⟨t, ty, kt⟩, q⟩
    · refine ⟨_, rfl, _, _, _, _, true, rfl, .ty "str", .base (.str z), kit_ty (by decide +kernel), true, rfl, iteT ?_⟩
      refine ⟨_, rfl, _, rfl, D, p, _, rfl, rfl, hk, TT, _, rfl, .inr (ht _), rfl, flat_strs _, ?_⟩
      rw [in_strs]
      exact q
    · exact ⟨_, rfl, _, _, _, _, false, rfl, .ty "str", ty, kit_ty kt, false, rfl, iteF q⟩
end
end K1
namespace K1
open PySem PySem.Spec PyProof.Rows L2 Bk
theorem scInit : FnScope ["self", "owner", "look", "choose", "wants", "early", "chosen", "part"] ["self", "owner", "look", "choose", "wants", "early"] (defScope mInit) := ⟨rfl, rfl, rfl, by decide +kernel, rfl, by decide +kernel, by decide +kernel⟩
theorem keys_ne : (Sum.inr "owner" : Key) ≠ .inr "look" := by decide +kernel
def kvs5 (a b c d e : V) : List (Key × V) := [(.inr "owner", a), (.inr "look", b), (.inr "choose", c), (.inr "wants", d), (.inr "early", e)]
theorem merge5 (a b c d e : V) : mergeK [] (kvs5 a b c d e) = kvs5 a b c d e := by
  have n1 : ¬ ((Sum.inr "owner" : Key) = .inr "look") := by decide +kernel
  have n2 : ¬ ((Sum.inr "owner" : Key) = .inr "choose") := by decide +kernel
  have n3 : ¬ ((Sum.inr "owner" : Key) = .inr "wants") := by decide +kernel
  have n4 : ¬ ((Sum.inr "owner" : Key) = .inr "early") := by decide +kernel
  have n5 : ¬ ((Sum.inr "look" : Key) = .inr "choose") := by decide +kernel
  have n6 : ¬ ((Sum.inr "look" : Key) = .inr "wants") := by decide +kernel
  have n7 : ¬ ((Sum.inr "look" : Key) = .inr "early") := by decide +kernel
  have n8 : ¬ ((Sum.inr "choose" : Key) = .inr "wants") := by decide +kernel
  have n9 : ¬ ((Sum.inr "choose" : Key) = .inr "early") := by decide +kernel
  have n10 : ¬ ((Sum.inr "wants" : Key) = .inr "early") := by decide +kernel
  unfold mergeK kvs5
  simp only [List.foldl, putK, List.any_nil, List.any_cons, Bool.false_eq_true, if_false, List.nil_append, List.cons_append, decide_eq_false n1, decide_eq_false n2, decide_eq_false n3, decide_eq_false n4, decide_eq_false n5, decide_eq_false n6, decide_eq_false n7, decide_eq_false n8, decide_eq_false n9, decide_eq_false n10, Bool.or_false]
theorem kvs5_get (a b c d e : V) : valV (kvs5 a b c d e) (.inr "owner") = some a ∧ valV (kvs5 a b c d e) (.inr "look") = some b ∧ valV (kvs5 a b c d e) (.inr "choose") = some c ∧ valV (kvs5 a b c d e) (.inr "wants") = some d ∧ valV (kvs5 a b c d e) (.inr "early") = some e := by
  have n1 : ¬ ((Sum.inr "owner" : Key) = .inr "look") := by decide +kernel
  have n2 : ¬ ((Sum.inr "owner" : Key) = .inr "choose") := by decide +kernel
  have n3 : ¬ ((Sum.inr "owner" : Key) = .inr "wants") := by decide +kernel
  have n4 : ¬ ((Sum.inr "owner" : Key) = .inr "early") := by decide +kernel
  have n5 : ¬ ((Sum.inr "look" : Key) = .inr "choose") := by decide +kernel
  have n6 : ¬ ((Sum.inr "look" : Key) = .inr "wants") := by decide +kernel
  have n7 : ¬ ((Sum.inr "look" : Key) = .inr "early") := by decide +kernel
  have n8 : ¬ ((Sum.inr "choose" : Key) = .inr "wants") := by decide +kernel
  have n9 : ¬ ((Sum.inr "choose" : Key) = .inr "early") := by decide +kernel
  have n10 : ¬ ((Sum.inr "wants" : Key) = .inr "early") := by decide +kernel
  unfold kvs5
  refine ⟨valV_pos rfl, ?_, ?_, ?_, ?_⟩
  · rw [valV_neg n1]; exact valV_pos rfl
  · rw [valV_neg n2, valV_neg n5]; exact valV_pos rfl
  · rw [valV_neg n3, valV_neg n6, valV_neg n8]; exact valV_pos rfl
  · rw [valV_neg n4, valV_neg n7, valV_neg n9, valV_neg n10]; exact valV_pos rfl
theorem Wds.kvs_eq (w : Wds) : w.kvs = kvs5 (.str w.o) (.str w.l) (.str w.c) (.str w.n) (.str w.e) := rfl
/-- the word of a switch -/
def Wds.at (w : Wds) (p : Str) : Str := if p = "owner" then w.o else if p = "look" then w.l else if p = "choose" then w.c else if p = "wants" then w.n else w.e
theorem prts_cases {p : Str} (h : p ∈ prts) : p = "owner" ∨ p = "look" ∨ p = "choose" ∨ p = "wants" ∨ p = "early" := by
  unfold prts at h
  simp only [List.mem_cons, List.not_mem_nil, or_false] at h
  exact h
theorem Wds.get (w : Wds) {p : Str} (h : p ∈ prts) : valV w.kvs (.inr p) = some (.str (w.at p)) := by
  have g := kvs5_get (.str w.o) (.str w.l) (.str w.c) (.str w.n) (.str w.e)
  have m2 : ¬ (("look" : Str) = "owner") := by decide +kernel
  have m3 : ¬ (("choose" : Str) = "owner") ∧ ¬ (("choose" : Str) = "look") := by decide +kernel
  have m4 : ¬ (("wants" : Str) = "owner") ∧ ¬ (("wants" : Str) = "look") ∧ ¬ (("wants" : Str) = "choose") := by decide +kernel
  have m5 : ¬ (("early" : Str) = "owner") ∧ ¬ (("early" : Str) = "look") ∧ ¬ (("early" : Str) = "choose") ∧ ¬ (("early" : Str) = "wants") := by decide +kernel
  rw [Wds.kvs_eq]
  unfold Wds.at
  rcases prts_cases h with rfl | rfl | rfl | rfl | rfl
  · rw [if_pos rfl]; exact g.1
  · rw [if_neg m2, if_pos rfl]; exact g.2.1
  · rw [if_neg m3.1, if_neg m3.2, if_pos rfl]; exact g.2.2.1
  · rw [if_neg m4.1, if_neg m4.2.1, if_neg m4.2.2, if_pos rfl]; exact g.2.2.2.1
  · rw [if_neg m5.1, if_neg m5.2.1, if_neg m5.2.2.1, if_neg m5.2.2.2]; exact g.2.2.2.2
theorem Wds.Ok.at {w : Wds} (h : w.Ok) {p : Str} (hp : p ∈ prts) : w.at p ∈ optW p := by
  obtain ⟨h1, h2, h3, h4, h5⟩ := h
  have m2 : ¬ (("look" : Str) = "owner") := by decide +kernel
  have m3 : ¬ (("choose" : Str) = "owner") ∧ ¬ (("choose" : Str) = "look") := by decide +kernel
  have m4 : ¬ (("wants" : Str) = "owner") ∧ ¬ (("wants" : Str) = "look") ∧ ¬ (("wants" : Str) = "choose") := by decide +kernel
  have m5 : ¬ (("early" : Str) = "owner") ∧ ¬ (("early" : Str) = "look") ∧ ¬ (("early" : Str) = "choose") ∧ ¬ (("early" : Str) = "wants") := by decide +kernel
  unfold Wds.at optW
  rcases prts_cases hp with rfl | rfl | rfl | rfl | rfl
  · rw [if_pos rfl, if_pos rfl]; exact h1
  · rw [if_neg m2, if_neg m2, if_pos rfl, if_pos rfl]; exact h2
  · rw [if_neg m3.1, if_neg m3.1, if_neg m3.2, if_neg m3.2, if_pos rfl, if_pos rfl]; exact h3
  · rw [if_neg m4.1, if_neg m4.1, if_neg m4.2.1, if_neg m4.2.1, if_neg m4.2.2, if_neg m4.2.2, if_pos rfl, if_pos rfl]; exact h4
  · rw [if_neg m5.1, if_neg m5.1, if_neg m5.2.1, if_neg m5.2.1, if_neg m5.2.2.1, if_neg m5.2.2.1, if_neg m5.2.2.2, if_neg m5.2.2.2]; exact h5
/-- Book.__init__ of good words -/
def spInit (CB : Addr) : Sp := fun vs H Q _ => ∃ (x dx : Addr) (wd : Wds), vs = .ref x :: wd.list.map V.str ∧ H x = some (.ins CB dx []) ∧ wd.Ok ∧
  ∀ (d : Addr), H d = none → Q .non (upd (upd H d (.dK wd.kvs)) x (.ins CB dx [("chosen", .ref d)]))
section
variable {P : Program} {w : World} {K : PySem.W.Frag} {mg : Str → Option Value} {base : Heap} {CB D : Addr}
theorem ok_init {f fW : Addr} {fd fdW : FuncData} (F : Fun K "__init__" "Book.__init__" mInit f fd) (B : BF K mg CB) (S : SWF K mg w D) (mW : mg "_is_word" = some (.ref fW)) (kW : PySem.W.keepIn K (.ref fW) = true) (bW : Binds K fdW ["part", "value"] []) (GW : FnOk P w K mg base CX0 1 fW fdW ["part", "value"] (spIsWord K)) :
    FnOk P w K mg base CX0 2 f fd ["self", "owner", "look", "choose", "wants", "early"] (spInit CB) := by
  refine F.ok scInit (fun vs H Q E h => ?_) (fun cdv A outer s H vs Q E hr h => ?_)
  · obtain ⟨x, dx, wd, rfl, _⟩ := h
    rfl
  · obtain ⟨x, dx, wd, rfl, hx, hok, q⟩ := h
    have hu := hu_of hr
    refine ⟨_, pss_cons (ps_set (i := 6) scInit.nd rfl (Or.inl rfl) (pe_disp (pps_cons pe_str (pv 1) (pps_cons pe_str (pv 2) (pps_cons pe_str (pv 3) (pps_cons pe_str (pv 4) (pps_cons pe_str (pv 5) pps_nil))))) (by rfl) (by rfl) (fun z => by cases z) (by decide)))
      (pss_cons (ps_for PassesOwn.never rfl (pi_wkeys (pe_glob (v := .ref D) (by rfl) S.g rfl)) (pg_name (i := 7) scInit.nd rfl (Or.inl rfl))
        (pss_one (ps_if (pt_not (pt_val (pe_call GW hr (by rfl) mW kW bW .nil pass0 (pa_cons (pv 7) (pa_cons (pe_dget hu (pv 6) (pv 7) (fun _ _ => rfl)) pa_nil))))) (pss_one ps_never) pss_nil)))
      (pss_one (ps_fld (pv 0) (pv 6) rfl))), ?_⟩
    refine fun d nd => ?_
    refine ⟨_, rfl, _, rfl, _, rfl, _, rfl, _, rfl, upd_same, wd.kvs, rfl, by show 5 ≤ 15; decide, ?_⟩
    have hd2 : (upd (upd H d (.dK [])) d (.dK (mergeK [] wd.kvs))) = upd H d (.dK wd.kvs) := by
      rw [Wds.kvs_eq, merge5]
      funext b
      by_cases hb : b = d
      · rw [hb, upd_same, upd_same]
      · rw [upd_ne hb, upd_ne hb, upd_ne hb]
    show _
    rw [hd2]
    refine ⟨D, prts, rfl, S.d, for_it walk_w (fun i σ H' => H' = upd H d (.dK wd.kvs) ∧ σ[0]? = some (some (V.ref x)) ∧ σ[6]? = some (some (V.ref d)) ∧ σ.length = 8) ⟨rfl, rfl, rfl, rfl⟩ (fun _ _ _ _ _ => trivial) ?_ ?_⟩
    · rintro i y σ H1 H2 hi ⟨rfl, s0, s6, sl⟩ ⟨rfl, k, hk, rfl⟩
      have hkm : k ∈ prts := List.mem_of_getElem? hk
      refine ⟨.str k, List.getElem?_set_self (by omega), .ref d, by rw [List.getElem?_set_ne (by decide)]; exact s6, .str k, List.getElem?_set_self (by omega), d, .str (wd.at k), rfl, (Wds.get wd hkm) ▸ DGet.k (k := Sum.inr k) upd_same, ?_⟩
      refine ⟨k, .str (wd.at k), rfl, hkm, .inl ⟨_, rfl, ?_⟩⟩
      rw [decide_eq_true (hok.at hkm)]
      refine ⟨_, rfl, iteF ⟨rfl, by rw [List.getElem?_set_ne (by decide)]; exact s0, by rw [List.getElem?_set_ne (by decide)]; exact s6, by rw [List.length_set]; exact sl⟩⟩
    · rintro σ H1 ⟨rfl, s0, s6, sl⟩
      refine ⟨_, s6, _, s0, x, CB, dx, [], rfl, ?_, B.cl, B.nC, by decide, ?_⟩
      · rw [upd_ne (ne_of_none hx nd)]
        exact hx
      · exact q d nd
end
end K1
namespace K1
open PySem PySem.Spec PyProof.Rows L2 Bk
theorem scErr : FnScope ["self", "part"] ["self", "part"] (defScope mErr) := ⟨rfl, rfl, rfl, by decide +kernel, rfl, by decide +kernel, by decide +kernel⟩
theorem scChkB : FnScope ["book"] ["book"] (defScope sChkB) := ⟨rfl, rfl, rfl, by decide +kernel, rfl, by decide +kernel, by decide +kernel⟩
def spErr (CE : Addr) (n : Str) : Sp := fun vs H Q _ => ∃ (a : Addr) (v : V), vs = [.ref a, v] ∧ H a = some (exo a CE none) ∧ ∀ dx, H dx = none → dx ≠ a → Q .non (upd (upd H dx (exd dx [(n, v)])) a (exo a CE (some dx)))
/-- what is known of an error -/
structure EF (K : PySem.W.Frag) (mg : Str → Option Value) (CE fE : Addr) (x n : Str) : Prop where
  ox : OexC K CE
  noV : PySem.W.findIn K (.ref CE) n = some none
  gE : mg x = some (.ref CE)
  iC : PySem.W.findIn K (.ref CE) "__init__" = some (some (.ref fE))
  tI : PySem.W.typeIn K (.ref fE) = some (.type "function")
theorem same_new {H : Hp} {p : Addr} {o : HO} (h : H p = none) : Same H (upd H p o) := fun b x e => by
  rw [upd_ne (ne_of_none e h)]
  exact e
theorem none_of {H H' : Hp} {p : Addr} (s : Same H H') (h : H' p = none) : H p = none := by
  cases e : H p with
  | none => rfl
  | some o =>
    have := s p o e
    rw [h] at this
    cases this
theorem err_same {H : Hp} {a d : Addr} {o1 o2 o3 o4 : HO} (na : H a = none) (nd : H d = none) : Same H (upd (del (upd (upd (upd H a o1) d o2) a o3) a) d o4) := fun b o e => by
  have h1 := ne_of_none e na
  have h2 := ne_of_none e nd
  rw [upd_ne h2, del_ne h1, upd_ne h1, upd_ne h2, upd_ne h1]
  exact e
/-- an error with a field flies -/
def Thr (CE : Addr) (n : Str) (x : V) (H : Hp) (E : XK) : Prop := ∀ (dd : Addr) (H' : Hp), H dd = none → Same H H' → H' dd = some (.xd [(n, x)]) → E (.ref CE) (some dd) H'
theorem Thr.same {CE : Addr} {n : Str} {x : V} {H H' : Hp} {E : XK} (h : Thr CE n x H E) (s : Same H H') : Thr CE n x H' E := fun dd H2 nd s2 e => h dd H2 (none_of s nd) (s.trans s2) e
/-- no book -/
def NotB (K : PySem.W.Frag) (CB : Addr) (H : Hp) (x : V) : Prop := ∃ ty : String, TyX K H x (.type ty) ∧ PySem.W.kitOne K (.type ty) (.ref CB) = some false
def spChkB (K : PySem.W.Frag) (CB CE : Addr) : Sp := fun vs H Q E => ∃ x, vs = [x] ∧ ((∃ a wd, x = .ref a ∧ BookAt CB H a wd ∧ Q .non H) ∨ (NotB K CB H x ∧ Thr CE "part" .non H E))
/-- the reading behind the making of an error, and its flight -/
theorem raise_err {CE : Addr} {n : Str} {v : V} {H : Hp} {E : XK} (h : Thr CE n v H E) : ∀ a, H a = none → spErr CE n [.ref a, v] (upd H a (exo a CE none)) (fun r H2 => r = .non ∧ ∃ (d : Addr) (fs : List (Str × V)), H2 a = some (exo a CE (some d)) ∧ H2 d = some (exd d fs) ∧ H d = none ∧ E (.ref CE) (some d) (upd (del H2 a) d (.xd fs))) (fun _ _ _ => False) := by
  intro a na
  refine ⟨a, v, rfl, upd_same, fun d2 nd2 ne => ⟨rfl, d2, _, upd_same, by rw [upd_ne ne, upd_same], by rw [upd_ne ne] at nd2; exact nd2, ?_⟩⟩
  rw [upd_ne ne] at nd2
  exact h d2 _ nd2 (err_same na nd2) upd_same
section
variable {P : Program} {w : World} {K : PySem.W.Frag} {mg : Str → Option Value} {base : Heap} {CB CE fE : Addr}
theorem ok_err {fd : FuncData} (F : Fun K "__init__" "InvalidBook.__init__" mErr fE fd) (W : EF K mg CE fE "InvalidBook" "part") : FnOk P w K mg base CX0 1 fE fd ["self", "part"] (spErr CE "part") := by
  refine F.ok scErr (fun vs H Q E h => ?_) (fun cdv A outer s H vs Q E hr h => ?_)
  · obtain ⟨a, v, rfl, _⟩ := h
    rfl
  · obtain ⟨a, v, rfl, ha, q⟩ := h
    refine ⟨_, pss_one (ps_ost (pv 0) (pv 1)), ?_⟩
    exact ⟨_, rfl, _, rfl, a, CE, rfl, W.ox, W.noV, .inl ⟨ha, fun dx n ne => q dx n ne⟩⟩
theorem ok_chkB {f : Addr} {fd fdE : FuncData} (F : Fun K "check_book" "check_book" sChkB f fd) (T : Tx mg) (B : BF K mg CB) (W : EF K mg CE fE "InvalidBook" "part") (bE : Binds K fdE ["self", "part"] []) (GE : FnOk P w K mg base CX0 1 fE fdE ["self", "part"] (spErr CE "part")) :
    FnOk P w K mg base (CX P w) 3 f fd ["book"] (spChkB K CB CE) := by
  refine F.okX scChkB (fun vs H Q E h => ?_) (fun cdv A outer s H vs Q E hr h => ?_)
  · obtain ⟨x, rfl, _⟩ := h
    rfl
  · obtain ⟨x, rfl, h⟩ := h
    refine ⟨_, pss_one (ps_if (pt_not (pt_val (pe_callB call_isi (by rfl) T.isi (by decide +kernel) (pa_cons (pv 0) (pa_cons (pe_glob (v := .ref CB) (by rfl) B.gB rfl) pa_nil)))))
      (pss_one (ps_raise rfl (takes_of rfl rfl rfl rfl) (pmk_oex (dvs := []) (ds := []) W.ox W.iC W.tI GE hr bE .nil pass0 (by rfl) W.gE (pa_cons pe_non pa_nil)))) pss_nil), ?_⟩
    rcases h with ⟨a, wd, rfl, ⟨dx, d, hx, hd⟩, q⟩ | ⟨⟨ty, h1, h2⟩, q⟩
    · exact ⟨_, rfl, _, _, _, _, true, rfl, .own CB, .base (.ins hx B.cl B.ha B.hn B.htk B.hm), B.own, true, rfl, iteF q⟩
    · exact ⟨_, rfl, _, _, _, _, false, rfl, .own CB, h1, h2, false, rfl, iteT ⟨by show 1 ≤ 1000; decide, raise_err q⟩⟩
end
end K1
namespace K1
open PySem PySem.Spec PyProof.Rows L2 Bk
theorem scErrP : FnScope ["self", "value"] ["self", "value"] (defScope mErrP) := ⟨rfl, rfl, rfl, by decide +kernel, rfl, by decide +kernel, by decide +kernel⟩
theorem scIndex : FnScope ["value", "many"] ["value", "many"] (defScope sIndex) := ⟨rfl, rfl, rfl, by decide +kernel, rfl, by decide +kernel, by decide +kernel⟩
theorem scChkP : FnScope ["places"] ["places"] (defScope sChkP) := ⟨rfl, rfl, rfl, by decide +kernel, rfl, by decide +kernel, by decide +kernel⟩
theorem scOwner : FnScope ["self"] ["self"] (defScope mOwner) := ⟨rfl, rfl, rfl, by decide +kernel, rfl, by decide +kernel, by decide +kernel⟩
theorem scLook : FnScope ["self"] ["self"] (defScope mLook) := ⟨rfl, rfl, rfl, by decide +kernel, rfl, by decide +kernel, by decide +kernel⟩
theorem scChoose : FnScope ["self"] ["self"] (defScope mChoose) := ⟨rfl, rfl, rfl, by decide +kernel, rfl, by decide +kernel, by decide +kernel⟩
theorem scEarly : FnScope ["self"] ["self"] (defScope mEarly) := ⟨rfl, rfl, rfl, by decide +kernel, rfl, by decide +kernel, by decide +kernel⟩
theorem scReason : FnScope ["book"] ["book"] (defScope sReason) := ⟨rfl, rfl, rfl, by decide +kernel, rfl, by decide +kernel, by decide +kernel⟩
theorem scReasonOf : FnScope ["book"] ["book"] (defScope sReasonOf) := ⟨rfl, rfl, rfl, by decide +kernel, rfl, by decide +kernel, by decide +kernel⟩
/-- a value that is no index -/
def BadIx (K : PySem.W.Frag) (H : Hp) (x : V) : Prop := ∃ t : String, TyX K H x (.type t) ∧ (kitB t "bool" = some true ∨ (kitB t "bool" = some false ∧ kitB t "int" = some false))
def spIndex (K : PySem.W.Frag) : Sp := fun vs H Q _ => ∃ (x : V) (n : Int), vs = [x, .int n] ∧ ((∃ i, x = .int i ∧ Q (.bl (decide (0 ≤ i) && decide (i < n))) H) ∨ (BadIx K H x ∧ Q (.bl false) H))
/-- no number of places -/
def NotP (K : PySem.W.Frag) (H : Hp) (x : V) : Prop := (∃ i : Int, x = .int i ∧ ¬ (1 ≤ i ∧ i ≤ 3)) ∨ BadIx K H x
def spChkP (K : PySem.W.Frag) (CP : Addr) : Sp := fun vs H Q E => ∃ x, vs = [x] ∧ ((∃ n : Nat, x = .int (n : Int) ∧ 1 ≤ n ∧ n ≤ 3 ∧ Q .non H) ∨ (NotP K H x ∧ Thr CP "value" x H E))
/-- a property of a book -/
def spProp (CB : Addr) (p : Str) : Sp := fun vs H Q _ => ∃ (x : Addr) (wd : Wds), vs = [.ref x] ∧ BookAt CB H x wd ∧ Q (.str (wd.at p)) H
def reasonW (wd : Wds) : Option Str :=
  if wd.l = "ladder" ∧ wd.c = "special" ∧ wd.e = "refused" then some "ladder" else if wd.l ≠ "apart" then none else if wd.c ≠ "first" then some "apart" else if wd.e = "once" then none else some "first"
def optV : Option Str → V
  | some z => .str z
  | none => .non
def spReason (CB : Addr) : Sp := fun vs H Q _ => ∃ (x : Addr) (wd : Wds), vs = [.ref x] ∧ BookAt CB H x wd ∧ Q (optV (reasonW wd)) H
def spReasonOf (K : PySem.W.Frag) (CB CE : Addr) : Sp := fun vs H Q E => ∃ x, vs = [x] ∧ ((∃ a wd, x = .ref a ∧ BookAt CB H a wd ∧ Q (optV (reasonW wd)) H) ∨ (NotB K CB H x ∧ Thr CE "part" .non H E))
theorem at_look (w : Wds) : w.at "look" = w.l := by
  unfold Wds.at
  rw [if_neg (by decide +kernel), if_pos rfl]
theorem at_owner (w : Wds) : w.at "owner" = w.o := by
  unfold Wds.at
  rw [if_pos rfl]
theorem at_choose (w : Wds) : w.at "choose" = w.c := by
  unfold Wds.at
  rw [if_neg (by decide +kernel), if_neg (by decide +kernel), if_pos rfl]
theorem at_early (w : Wds) : w.at "early" = w.e := by
  unfold Wds.at
  rw [if_neg (by decide +kernel), if_neg (by decide +kernel), if_neg (by decide +kernel), if_neg (by decide +kernel)]
theorem dec_str (a b : Str) : decide (V.str a = V.str b) = decide (a = b) := by
  rw [decide_eq_decide]
  exact ⟨fun h => by injection h, fun h => by rw [h]⟩
section
variable {P : Program} {w : World} {K : PySem.W.Frag} {mg : Str → Option Value} {base : Heap} {CB CE CP fE fP : Addr}
theorem ok_errP {fd : FuncData} (F : Fun K "__init__" "InvalidPlaces.__init__" mErrP fP fd) (W : EF K mg CP fP "InvalidPlaces" "value") : FnOk P w K mg base CX0 1 fP fd ["self", "value"] (spErr CP "value") := by
  refine F.ok scErrP (fun vs H Q E h => ?_) (fun cdv A outer s H vs Q E hr h => ?_)
  · obtain ⟨a, v, rfl, _⟩ := h
    rfl
  · obtain ⟨a, v, rfl, ha, q⟩ := h
    refine ⟨_, pss_one (ps_ost (pv 0) (pv 1)), ?_⟩
    exact ⟨_, rfl, _, rfl, a, CP, rfl, W.ox, W.noV, .inl ⟨ha, fun dx n ne => q dx n ne⟩⟩
theorem ok_index {f : Addr} {fd : FuncData} (F : Fun K "is_index" "is_index" sIndex f fd) (T : Tx mg) : FnOk P w K mg base CX0 1 f fd ["value", "many"] (spIndex K) := by
  refine F.ok scIndex (fun vs H Q E h => ?_) (fun cdv A outer s H vs Q E hr h => ?_)
  · obtain ⟨x, n, rfl, _⟩ := h
    rfl
  · obtain ⟨x, n, rfl, h⟩ := h
    refine ⟨_, pss_cons (ps_if (PW.pt (pw_or (pt_val (pe_callB call_isi (by rfl) T.isi (by decide +kernel) (pa_cons (pv 0) (pa_cons (pe_bltn (v := .ty "bool") (u := .type "bool") (by rfl) T.bool (by decide +kernel) rfl) pa_nil))))
        (pw_or1 (pt_not (pt_val (pe_callB call_isi (by rfl) T.isi (by decide +kernel) (pa_cons (pv 0) (pa_cons (pe_bltn (v := .ty "int") (u := .type "int") (by rfl) T.int (by decide +kernel) rfl) pa_nil)))))))) (pss_one (ps_ret pe_bl)) pss_nil)
      (pss_one (ps_ret (pe_chain op_le op_lt pe_int (pv 0) (pv 1)))), ?_⟩
    rcases h with ⟨i, rfl, q⟩ | ⟨⟨t, ty, kt⟩, q⟩
    · refine ⟨_, rfl, _, _, _, _, false, rfl, .ty "bool", .base (.int i), kit_ty (by decide +kernel), false, rfl, iteF ?_⟩
      refine ⟨_, rfl, _, _, _, _, true, rfl, .ty "int", .base (.int i), kit_ty (by decide +kernel), true, rfl, iteF ?_⟩
      refine ⟨_, rfl, _, _, rfl, rfl, _, rfl, ?_⟩
      refine ite2 (fun c => ?_) (fun c => ?_)
      · rw [c, Bool.true_and] at q
        exact ⟨_, rfl, _, _, rfl, rfl, q⟩
      · rw [show decide (0 ≤ i) = false from Bool.eq_false_iff.mpr c, Bool.false_and] at q
        exact q
    · rcases kt with kt | ⟨k1, k2⟩
      · exact ⟨_, rfl, _, _, _, _, true, rfl, .ty "bool", ty, kit_ty kt, true, rfl, iteT q⟩
      · refine ⟨_, rfl, _, _, _, _, false, rfl, .ty "bool", ty, kit_ty k1, false, rfl, iteF ?_⟩
        exact ⟨_, rfl, _, _, _, _, false, rfl, .ty "int", ty, kit_ty k2, false, rfl, iteT q⟩
theorem ok_chkP {f fI : Addr} {fd fdP fdI : FuncData} (F : Fun K "check_places" "check_places" sChkP f fd) (mM : ∃ t, mg "MOST_PLACES" = some (.int 3 t)) (W : EF K mg CP fP "InvalidPlaces" "value") (bP : Binds K fdP ["self", "value"] []) (GP : FnOk P w K mg base CX0 1 fP fdP ["self", "value"] (spErr CP "value"))
    (mI : mg "is_index" = some (.ref fI)) (kI : PySem.W.keepIn K (.ref fI) = true) (bI : Binds K fdI ["value", "many"] []) (GI : FnOk P w K mg base CX0 1 fI fdI ["value", "many"] (spIndex K)) :
    FnOk P w K mg base (CX P w) 3 f fd ["places"] (spChkP K CP) := by
  refine F.okX scChkP (fun vs H Q E h => ?_) (fun cdv A outer s H vs Q E hr h => ?_)
  · obtain ⟨x, rfl, _⟩ := h
    rfl
  · obtain ⟨x, rfl, h⟩ := h
    obtain ⟨tm, mm⟩ := mM
    refine ⟨_, pss_one (ps_if (PW.pt (pw_or (pt_not (pt_val (pe_call GI (hr.mono (by decide)) (by rfl) mI kI bI .nil pass0 (pa_cons (pv 0) (pa_cons (pe_op op_add (pe_glob (v := .int 3) (by rfl) mm ⟨tm, rfl⟩) pe_int) pa_nil))))) (pw_or1 (pt_cmpR op_eq (pv 0) pe_int (nomark _)))))
      (pss_one (ps_raise rfl (takes_of rfl rfl rfl rfl) (pmk_oex (dvs := []) (ds := []) W.ox W.iC W.tI GP hr bP .nil pass0 (by rfl) W.gE (pa_cons (pv 0) pa_nil)))) pss_nil), ?_⟩
    rcases h with ⟨n, rfl, h1, h3, q⟩ | ⟨h, q⟩
    · refine ⟨_, rfl, _, _, rfl, rfl, _, _, rfl, .inl ⟨_, rfl, ?_⟩⟩
      rw [decide_eq_true (show (0 : Int) ≤ n by omega), decide_eq_true (show (n : Int) < 3 + 1 by omega)]
      refine ⟨_, rfl, iteF ⟨_, rfl, rfl, _, rfl, ?_⟩⟩
      rw [decide_eq_false (show ¬ (V.int (n : Int) = V.int 0) from fun e => by injection e with e; omega)]
      exact iteF q
    · rcases h with ⟨i, rfl, hi⟩ | hb
      · refine ⟨_, rfl, _, _, rfl, rfl, _, _, rfl, .inl ⟨_, rfl, ?_⟩⟩
        by_cases h0 : i = 0
        · subst h0
          rw [show (decide ((0 : Int) ≤ 0) && decide ((0 : Int) < 3 + 1)) = true from rfl]
          refine ⟨_, rfl, iteF ⟨_, rfl, rfl, _, rfl, ?_⟩⟩
          rw [decide_eq_true (show V.int (0 : Int) = V.int 0 from rfl)]
          exact iteT ⟨_, rfl, by show 1 ≤ 1000; decide, raise_err q⟩
        · have e : (decide ((0 : Int) ≤ i) && decide (i < 3 + 1)) = false := by
            cases hd : decide ((0 : Int) ≤ i) with
            | false => rfl
            | true =>
              rw [Bool.true_and]
              have := of_decide_eq_true hd
              exact decide_eq_false fun h => hi ⟨by omega, by omega⟩
          rw [e]
          exact ⟨_, rfl, iteT ⟨_, rfl, by show 1 ≤ 1000; decide, raise_err q⟩⟩
      · refine ⟨_, rfl, _, _, rfl, rfl, _, _, rfl, .inr ⟨hb, ?_⟩⟩
        exact ⟨_, rfl, iteT ⟨_, rfl, by show 1 ≤ 1000; decide, raise_err q⟩⟩
theorem ok_owner {f : Addr} {fd : FuncData} (F : Fun K "owner" "Book.owner" mOwner f fd) (B : BF K mg CB) : FnOk P w K mg base CX0 1 f fd ["self"] (spProp CB "owner") := by
  refine F.ok scOwner (fun vs H Q E h => ?_) (fun cdv A outer s H vs Q E hr h => ?_)
  · obtain ⟨x, wd, rfl, _⟩ := h
    rfl
  · obtain ⟨x, wd, rfl, ⟨dx, d, hx, hd⟩, q⟩ := h
    refine ⟨_, pss_one (ps_ret (pe_dget (hu_of hr) (pe_fld (pv 0) rfl) pe_str (fun _ _ => rfl))), ?_⟩
    exact ⟨_, rfl, x, CB, dx, _, _, rfl, hx, B.cl, B.nC, rfl, d, _, rfl, (Wds.get wd (p := "owner") (by decide +kernel)) ▸ DGet.k (k := Sum.inr "owner") hd, q⟩
theorem ok_look {f : Addr} {fd : FuncData} (F : Fun K "look" "Book.look" mLook f fd) (B : BF K mg CB) : FnOk P w K mg base CX0 1 f fd ["self"] (spProp CB "look") := by
  refine F.ok scLook (fun vs H Q E h => ?_) (fun cdv A outer s H vs Q E hr h => ?_)
  · obtain ⟨x, wd, rfl, _⟩ := h
    rfl
  · obtain ⟨x, wd, rfl, ⟨dx, d, hx, hd⟩, q⟩ := h
    refine ⟨_, pss_one (ps_ret (pe_dget (hu_of hr) (pe_fld (pv 0) rfl) pe_str (fun _ _ => rfl))), ?_⟩
    exact ⟨_, rfl, x, CB, dx, _, _, rfl, hx, B.cl, B.nC, rfl, d, _, rfl, (Wds.get wd (p := "look") (by decide +kernel)) ▸ DGet.k (k := Sum.inr "look") hd, q⟩
theorem ok_choose {f : Addr} {fd : FuncData} (F : Fun K "choose" "Book.choose" mChoose f fd) (B : BF K mg CB) : FnOk P w K mg base CX0 1 f fd ["self"] (spProp CB "choose") := by
  refine F.ok scChoose (fun vs H Q E h => ?_) (fun cdv A outer s H vs Q E hr h => ?_)
  · obtain ⟨x, wd, rfl, _⟩ := h
    rfl
  · obtain ⟨x, wd, rfl, ⟨dx, d, hx, hd⟩, q⟩ := h
    refine ⟨_, pss_one (ps_ret (pe_dget (hu_of hr) (pe_fld (pv 0) rfl) pe_str (fun _ _ => rfl))), ?_⟩
    exact ⟨_, rfl, x, CB, dx, _, _, rfl, hx, B.cl, B.nC, rfl, d, _, rfl, (Wds.get wd (p := "choose") (by decide +kernel)) ▸ DGet.k (k := Sum.inr "choose") hd, q⟩
theorem ok_early {f : Addr} {fd : FuncData} (F : Fun K "early" "Book.early" mEarly f fd) (B : BF K mg CB) : FnOk P w K mg base CX0 1 f fd ["self"] (spProp CB "early") := by
  refine F.ok scEarly (fun vs H Q E h => ?_) (fun cdv A outer s H vs Q E hr h => ?_)
  · obtain ⟨x, wd, rfl, _⟩ := h
    rfl
  · obtain ⟨x, wd, rfl, ⟨dx, d, hx, hd⟩, q⟩ := h
    refine ⟨_, pss_one (ps_ret (pe_dget (hu_of hr) (pe_fld (pv 0) rfl) pe_str (fun _ _ => rfl))), ?_⟩
    exact ⟨_, rfl, x, CB, dx, _, _, rfl, hx, B.cl, B.nC, rfl, d, _, rfl, (Wds.get wd (p := "early") (by decide +kernel)) ▸ DGet.k (k := Sum.inr "early") hd, q⟩
/-- a property with its getter -/
structure PrG (P : Program) (w : World) (K : PySem.W.Frag) (mg : Str → Option Value) (base : Heap) (CB : Addr) (p : Str) (pa f : Addr) (fd : FuncData) : Prop where
  po : PropOf K CB p pa f
  b : Binds K fd ["self"] []
  g : FnOk P w K mg base CX0 1 f fd ["self"] (spProp CB p)
theorem ok_reason {f p1 p2 p3 g1 g2 g3 : Addr} {fd d1 d2 d3 : FuncData} (F : Fun K "reason_for" "reason_for" sReason f fd) (B : BF K mg CB) (R1 : PrG P w K mg base CB "look" p1 g1 d1) (R2 : PrG P w K mg base CB "choose" p2 g2 d2) (R3 : PrG P w K mg base CB "early" p3 g3 d3) :
    FnOk P w K mg base CX0 3 f fd ["book"] (spReason CB) := by
  refine F.ok scReason (fun vs H Q E h => ?_) (fun cdv A outer s H vs Q E hr h => ?_)
  · obtain ⟨x, wd, rfl, _⟩ := h
    rfl
  · obtain ⟨x, wd, rfl, hb, q⟩ := h
    have hb' := hb
    obtain ⟨dx, d, hx, hd⟩ := hb'
    refine ⟨_, pss_cons (ps_if (PW.pt (pw_and (pt_cmpR op_eq (pe_prop (pv 0) B.cl R1.po R1.g hr R1.b .nil pass0 rfl) pe_str (nomark _)) (pw_and (pt_cmpR op_eq (pe_prop (pv 0) B.cl R2.po R2.g hr R2.b .nil pass0 rfl) pe_str (nomark _)) (pw_and1 (pt_cmpR op_eq (pe_prop (pv 0) B.cl R3.po R3.g hr R3.b .nil pass0 rfl) pe_str (nomark _))))))
        (pss_one (ps_ret pe_str)) pss_nil)
      (pss_cons (ps_if (pt_cmpR op_ne (pe_prop (pv 0) B.cl R1.po R1.g hr R1.b .nil pass0 rfl) pe_str (nomark _)) (pss_one (ps_ret pe_non)) pss_nil)
      (pss_cons (ps_if (pt_cmpR op_ne (pe_prop (pv 0) B.cl R2.po R2.g hr R2.b .nil pass0 rfl) pe_str (nomark _)) (pss_one (ps_ret pe_str)) pss_nil)
      (pss_one (ps_ret (pe_ifExp (pt_cmpR op_eq (pe_prop (pv 0) B.cl R3.po R3.g hr R3.b .nil pass0 rfl) pe_str (nomark _)) pe_non pe_str))))), ?_⟩
    unfold reasonW at q
    have r0 : True := trivial
    by_cases h1 : wd.l = "ladder"
    · have h1a : ¬ wd.l = "apart" := by
        rw [h1]
        decide +kernel
      refine ⟨_, rfl, x, dx, _, rfl, hx, x, wd, rfl, hb, rfl, _, rfl, ?_⟩
      rw [dec_str, at_look, decide_eq_true h1]
      by_cases h2 : wd.c = "special"
      · refine iteT ⟨_, rfl, x, dx, _, rfl, hx, x, wd, rfl, hb, rfl, _, rfl, ?_⟩
        rw [dec_str, at_choose, decide_eq_true h2]
        by_cases h3 : wd.e = "refused"
        · rw [if_pos ⟨h1, h2, h3⟩] at q
          refine iteT ⟨_, rfl, x, dx, _, rfl, hx, x, wd, rfl, hb, rfl, _, rfl, ?_⟩
          rw [dec_str, at_early, decide_eq_true h3]
          exact iteT q
        · rw [if_neg fun z => h3 z.2.2, if_pos h1a] at q
          refine iteT ⟨_, rfl, x, dx, _, rfl, hx, x, wd, rfl, hb, rfl, _, rfl, ?_⟩
          rw [dec_str, at_early, decide_eq_false h3]
          refine iteF ⟨_, rfl, x, dx, _, rfl, hx, x, wd, rfl, hb, rfl, _, rfl, ?_⟩
          rw [dec_str, at_look, decide_eq_false h1a]
          exact iteT q
      · rw [if_neg fun z => h2 z.2.1, if_pos h1a] at q
        refine iteT ⟨_, rfl, x, dx, _, rfl, hx, x, wd, rfl, hb, rfl, _, rfl, ?_⟩
        rw [dec_str, at_choose, decide_eq_false h2]
        refine iteF ⟨_, rfl, x, dx, _, rfl, hx, x, wd, rfl, hb, rfl, _, rfl, ?_⟩
        rw [dec_str, at_look, decide_eq_false h1a]
        exact iteT q
    · rw [if_neg fun z => h1 z.1] at q
      refine ⟨_, rfl, x, dx, _, rfl, hx, x, wd, rfl, hb, rfl, _, rfl, ?_⟩
      rw [dec_str, at_look, decide_eq_false h1]
      refine iteF ⟨_, rfl, x, dx, _, rfl, hx, x, wd, rfl, hb, rfl, _, rfl, ?_⟩
      by_cases h4 : wd.l = "apart"
      · rw [if_neg fun z => z h4] at q
        rw [dec_str, at_look, decide_eq_true h4]
        refine iteF ⟨_, rfl, x, dx, _, rfl, hx, x, wd, rfl, hb, rfl, _, rfl, ?_⟩
        by_cases h5 : wd.c = "first"
        · rw [if_neg fun z => z h5] at q
          rw [dec_str, at_choose, decide_eq_true h5]
          refine iteF ⟨_, rfl, x, dx, _, rfl, hx, x, wd, rfl, hb, rfl, _, rfl, ?_⟩
          by_cases h6 : wd.e = "once"
          · rw [if_pos h6] at q
            rw [dec_str, at_early, decide_eq_true h6]
            exact iteT q
          · rw [if_neg h6] at q
            rw [dec_str, at_early, decide_eq_false h6]
            exact iteF q
        · rw [if_pos h5] at q
          rw [dec_str, at_choose, decide_eq_false h5]
          exact iteT q
      · rw [if_pos h4] at q
        rw [dec_str, at_look, decide_eq_false h4]
        exact iteT q
theorem ok_reasonOf {f fB fR : Addr} {fd fdB fdR : FuncData} (F : Fun K "reason_of" "reason_of" sReasonOf f fd) (mB : mg "check_book" = some (.ref fB)) (kB : PySem.W.keepIn K (.ref fB) = true) (bB : Binds K fdB ["book"] []) (GB : FnOk P w K mg base (CX P w) 3 fB fdB ["book"] (spChkB K CB CE))
    (mR : mg "reason_for" = some (.ref fR)) (kR : PySem.W.keepIn K (.ref fR) = true) (bR : Binds K fdR ["book"] []) (GR : FnOk P w K mg base CX0 3 fR fdR ["book"] (spReason CB)) :
    FnOk P w K mg base (CX P w) 4 f fd ["book"] (spReasonOf K CB CE) := by
  refine F.okX scReasonOf (fun vs H Q E h => ?_) (fun cdv A outer s H vs Q E hr h => ?_)
  · obtain ⟨x, rfl, _⟩ := h
    rfl
  · obtain ⟨x, rfl, h⟩ := h
    refine ⟨_, pss_cons (ps_expr (pe_call GB hr (by rfl) mB kB bB .nil (passes_call (takes_of rfl rfl rfl rfl) (fun _ _ _ _ z => z)) (pa_cons (pv 0) pa_nil)))
      (pss_one (ps_ret (pe_call GR hr (by rfl) mR kR bR .nil pass0 (pa_cons (pv 0) pa_nil)))), ?_⟩
    rcases h with ⟨a, wd, rfl, hb, q⟩ | ⟨hn, q⟩
    · exact ⟨_, rfl, _, rfl, .inl ⟨a, wd, rfl, hb, _, rfl, a, wd, rfl, hb, q⟩⟩
    · exact ⟨_, rfl, _, rfl, .inr ⟨hn, q⟩⟩
end
end K1
namespace K1
open PySem PySem.Spec PyProof.Rows L2 Bk
theorem scLetBy : FnScope ["owner", "shape"] ["owner", "shape"] (defScope sLetBy) := ⟨rfl, rfl, rfl, by decide +kernel, rfl, by decide +kernel, by decide +kernel⟩
theorem scShapes : FnScope ["book", "places", "rows", "_", "row", "word"] ["book", "places"] (defScope sShapes) := ⟨rfl, rfl, rfl, by decide +kernel, rfl, by decide +kernel, by decide +kernel⟩
def shW : List Str := ["own", "seen", "any"]
def earlyB : List Str → Bool
  | [] => false
  | w :: r => if w = "seen" then earlyB r else decide (w = "own")
/-- whether an owner lets a shape -/
def letB (o : Str) (r : List Str) : Bool := if o = "anybody" then true else if o = "any" then decide (("own" : Str) ∈ r) else if o = "first" then decide (r.head? = some ("own" : Str)) else earlyB r
theorem own_cases {w : Str} (h : w ∈ shW) : w = "own" ∨ w = "seen" ∨ w = "any" := by
  unfold shW at h
  simp only [List.mem_cons, List.not_mem_nil, or_false] at h
  exact h
theorem early_none : ∀ r : List Str, (∀ w ∈ r, w ∈ shW) → ("own" : Str) ∉ r → earlyB r = false
  | [], _, _ => rfl
  | w :: r, h, hn => by
    have n1 : ¬ (w = "own") := fun e => hn (by rw [e]; exact List.mem_cons_self)
    unfold earlyB
    by_cases hs : w = "seen"
    · rw [if_pos hs]
      exact early_none r (fun x hx => h x (List.mem_cons_of_mem _ hx)) fun hx => hn (List.mem_cons_of_mem _ hx)
    · rw [if_neg hs]
      exact decide_eq_false n1
theorem early_first : ∀ r : List Str, (∀ w ∈ r, w ∈ shW) → ("own" : Str) ∈ r → ∃ j : Nat, r[j]? = some ("own" : Str) ∧ (∀ m, m < j → r[m]? ≠ some ("own" : Str)) ∧ (!decide (("any" : Str) ∈ r.take j)) = earlyB r
  | [], _, h => by cases h
  | w :: r, h, hm => by
    have ns : ¬ (("own" : Str) = "seen") := by decide +kernel
    have na : ¬ (("any" : Str) = "own") := by decide +kernel
    have nas : ¬ (("any" : Str) = "seen") := by decide +kernel
    by_cases h0 : w = "own"
    · subst h0
      refine ⟨0, rfl, fun m hm => absurd hm (Nat.not_lt_zero _), ?_⟩
      unfold earlyB
      rw [if_neg ns, decide_eq_true (show ("own" : Str) = "own" from rfl)]
      rfl
    · have hr : ("own" : Str) ∈ r := by
        rcases List.mem_cons.mp hm with e | e
        · exact absurd e.symm h0
        · exact e
      obtain ⟨j, j1, j2, j3⟩ := early_first r (fun x hx => h x (List.mem_cons_of_mem _ hx)) hr
      refine ⟨j + 1, j1, fun m hm e => ?_, ?_⟩
      · cases m with
        | zero =>
          have : w = "own" := by simpa using e
          exact h0 this
        | succ m => exact j2 m (by omega) e
      · rw [List.take_succ_cons]
        unfold earlyB
        by_cases hs : w = "seen"
        · rw [if_pos hs, ← j3]
          congr 1
          rw [decide_eq_decide]
          constructor
          · intro z
            rcases List.mem_cons.mp z with e | e
            · exact absurd (e.trans hs) nas
            · exact e
          · exact List.mem_cons_of_mem _
        · rw [if_neg hs, decide_eq_false h0]
          have hw : w = "any" := by
            rcases own_cases (h w List.mem_cons_self) with e | e | e
            · exact absurd e h0
            · exact absurd e hs
            · exact e
          rw [decide_eq_true (show ("any" : Str) ∈ w :: List.take j r by rw [hw]; exact List.mem_cons_self)]
          rfl
theorem cut_take (xs : List V) (j : Nat) : cutV xs none (some (j : Int)) = xs.take j := by
  unfold cutV
  rw [show HT.sIx xs.length xs.length (some (j : Int)) = min j xs.length from HT.sIx_nat _ _ j, HT.sIx_none, List.drop_zero, Nat.sub_zero]
  rw [← List.take_take, List.take_length]
def spLetBy : Sp := fun vs H Q _ => ∃ (o : Str) (p : Addr) (r : List Str), vs = [.str o, .ref p] ∧ TupF H p (r.map V.str) ∧ o ∈ oW ∧ r ≠ [] ∧ (∀ w ∈ r, w ∈ shW) ∧ ∀ H', Same H H' → Q (.bl (letB o r)) H'
section
variable {P : Program} {w : World} {K : PySem.W.Frag} {mg : Str → Option Value} {base : Heap} {CB CE CP fE fP : Addr}
theorem ok_letBy {f : Addr} {fd : FuncData} (F : Fun K "_is_let_by" "_is_let_by" sLetBy f fd) : FnOk P w K mg base CX0 1 f fd ["owner", "shape"] spLetBy := by
  refine F.ok scLetBy (fun vs H Q E h => ?_) (fun cdv A outer s H vs Q E hr h => ?_)
  · obtain ⟨o, p, r, rfl, _⟩ := h
    rfl
  · obtain ⟨o, p, r, rfl, hp, ho, hne, hw, q⟩ := h
    have hu := hu_of hr
    refine ⟨_, pss_cons (ps_if (pt_cmpR op_eq (pv 0) pe_str (nomark _)) (pss_one (ps_ret pe_bl)) pss_nil)
      (pss_cons (ps_if (pt_cmpR op_eq (pv 0) pe_str (nomark _)) (pss_one (ps_ret (pe_cmpR op_in_seq pe_str (pv 1) (by rfl)))) pss_nil)
      (pss_cons (ps_if (pt_cmpR op_eq (pv 0) pe_str (nomark _)) (pss_one (ps_ret (pe_cmpR op_eq (pe_ix ix_tup (pv 1) pe_int (fun _ _ => rfl)) pe_str (nomark _)))) pss_nil)
      (pss_one (ps_ret (pe_and (pe_cmpR op_in_seq pe_str (pv 1) (by rfl)) (pe_one (pe_cmpR op_notIn_seq pe_str (pe_slice sl_tupA (pv 1) po_none (po_some (pe_bmF PySem.F.plainAttrs_tuple PySem.F.slot_tuple_index PySem.F.type_tuple_index mt_tup_index (pv 1) (pa_cons pe_str pa_nil)))) (by rfl)))))))), ?_⟩
    have q0 := q H (Same.refl H)
    unfold letB at q0 q
    refine ⟨_, rfl, rfl, _, rfl, ?_⟩
    rw [dec_str]
    by_cases h1 : o = "anybody"
    · rw [if_pos h1] at q0
      rw [decide_eq_true h1]
      exact iteT q0
    rw [if_neg h1] at q0 q
    rw [decide_eq_false h1]
    refine iteF ⟨_, rfl, rfl, _, rfl, ?_⟩
    rw [dec_str]
    by_cases h2 : o = "any"
    · rw [if_pos h2] at q0
      rw [decide_eq_true h2]
      refine iteT ⟨_, rfl, p, _, rfl, .inr (hp.sq), rfl, flat_strs _, ?_⟩
      rw [in_strs]
      exact q0
    rw [if_neg h2] at q0 q
    rw [decide_eq_false h2]
    refine iteF ⟨_, rfl, rfl, _, rfl, ?_⟩
    rw [dec_str]
    by_cases h3 : o = "first"
    · rw [if_pos h3] at q0
      rw [decide_eq_true h3]
      cases r with
      | nil => exact absurd rfl hne
      | cons a r =>
        refine iteT ⟨_, rfl, p, _, (0 : Int), .str a, rfl, rfl, hp.sq, atI_nat (j := 0) rfl, rfl, ?_⟩
        rw [dec_str]
        rw [show decide ((a :: r).head? = some ("own" : Str)) = decide (a = "own") by rw [decide_eq_decide]; simp] at q0
        exact q0
    rw [if_neg h3] at q0 q
    rw [decide_eq_false h3]
    refine iteF ⟨_, rfl, p, _, rfl, .inr (hp.sq), rfl, flat_strs _, _, rfl, ?_⟩
    rw [if_neg Bool.false_ne_true, in_strs]
    by_cases h4 : ("own" : Str) ∈ r
    · rw [decide_eq_true h4]
      obtain ⟨j, j1, j2, j3⟩ := early_first r hw h4
      refine iteT ⟨_, rfl, _, rfl, ⟨p, _, rfl, hp⟩, p, r, "own", j, rfl, rfl, hp.sq, j1, j2, (j : Int), rfl, p, _, rfl, hp.sq, fun wh => ?_, fun _ p2 np2 => ?_⟩
      · have hz : j = r.length := by
          have := wh.2
          rw [show HT.sIx (r.map V.str).length (r.map V.str).length (some (j : Int)) = min j (r.map V.str).length from HT.sIx_nat _ _ j, List.length_map] at this
          have := (List.getElem?_eq_some_iff.mp j1).1
          omega
        have := (List.getElem?_eq_some_iff.mp j1).1
        omega
      · have e : cutV (r.map V.str) none (some (j : Int)) = (r.take j).map V.str := by rw [cut_take, List.map_take]
        rw [e]
        refine ⟨p2, _, rfl, .inr (SqT.of upd_same), rfl, flat_strs _, ?_⟩
        rw [if_pos rfl, in_strs, j3]
        exact q _ (same_new np2)
    · rw [decide_eq_false h4]
      rw [early_none r hw h4] at q0
      exact iteF q0
end
end K1
namespace K1
open PySem PySem.Spec PyProof.Rows L2 Bk
/-- at qs: tuples of the texts rs -/
def Tups (H : Hp) (qs : List Addr) (rs : List (List Str)) : Prop := qs.length = rs.length ∧ ∀ (i : Nat) (q : Addr), qs[i]? = some q → ∃ r, rs[i]? = some r ∧ TupF H q (r.map V.str)
theorem Tups.same {H H' : Hp} {qs : List Addr} {rs : List (List Str)} (h : Tups H qs rs) (s : Same H H') : Tups H' qs rs := ⟨h.1, fun i q e => let ⟨r, a, b⟩ := h.2 i q e; ⟨r, a, b.same s⟩⟩
theorem Tups.app {H : Hp} {qs : List Addr} {rs : List (List Str)} {q : Addr} {r : List Str} (h : Tups H qs rs) (t : TupF H q (r.map V.str)) : Tups H (qs ++ [q]) (rs ++ [r]) := by
  refine ⟨by rw [List.length_append, List.length_append, h.1]; rfl, fun i q' e => ?_⟩
  by_cases hi : i < qs.length
  · rw [List.getElem?_append_left hi] at e
    obtain ⟨r', a, b⟩ := h.2 i q' e
    exact ⟨r', by rw [List.getElem?_append_left (by rw [← h.1]; exact hi)]; exact a, b⟩
  · rw [List.getElem?_append_right (by omega)] at e
    have hz : i - qs.length = 0 := by
      cases hk : i - qs.length with
      | zero => rfl
      | succ k =>
        rw [hk] at e
        simp at e
    rw [hz] at e
    have e' : q = q' := by simpa using e
    subst e'
    refine ⟨r, ?_, t⟩
    rw [List.getElem?_append_right (by rw [← h.1]; omega), ← h.1, hz]
    rfl
theorem Tups.nil {H : Hp} : Tups H [] [] := ⟨rfl, fun i q e => by simp at e⟩
theorem Tups.at {H : Hp} {qs : List Addr} {rs : List (List Str)} (h : Tups H qs rs) {i : Nat} {r : List Str} (e : rs[i]? = some r) : ∃ q, qs[i]? = some q ∧ TupF H q (r.map V.str) := by
  have hi : i < qs.length := by rw [h.1]; exact (List.getElem?_eq_some_iff.mp e).1
  obtain ⟨r', a, b⟩ := h.2 i qs[i] (List.getElem?_eq_getElem hi)
  rw [e] at a
  cases a
  exact ⟨_, List.getElem?_eq_getElem hi, b⟩
theorem same_upd {H0 H : Hp} {D : Addr} {o : HO} (s : Same H0 H) (n : H0 D = none) : Same H0 (upd H D o) := fun b x e => by
  rw [upd_ne (ne_of_none e n)]
  exact s b x e
def stepR (rs : List (List Str)) : List (List Str) := rs.flatMap fun r => shW.map fun w => r ++ [w]
def allR : Nat → List (List Str)
  | 0 => [[]]
  | n + 1 => stepR (allR n)
def shapesL (o : Str) (n : Nat) : List (List Str) := (allR n).filter (letB o)
theorem stepR_mem {rs : List (List Str)} {n : Nat} (h : ∀ r ∈ rs, r.length = n ∧ ∀ w ∈ r, w ∈ shW) : ∀ r ∈ stepR rs, r.length = n + 1 ∧ ∀ w ∈ r, w ∈ shW := by
  intro r hr
  unfold stepR at hr
  rw [List.mem_flatMap] at hr
  obtain ⟨a, ha, hr⟩ := hr
  rw [List.mem_map] at hr
  obtain ⟨x, hx, rfl⟩ := hr
  obtain ⟨h1, h2⟩ := h a ha
  refine ⟨by rw [List.length_append, h1]; rfl, fun w hw => ?_⟩
  rcases List.mem_append.mp hw with hw | hw
  · exact h2 w hw
  · rw [List.mem_singleton.mp hw]
    exact hx
theorem allR_mem : ∀ n : Nat, ∀ r ∈ allR n, r.length = n ∧ ∀ w ∈ r, w ∈ shW
  | 0 => fun r hr => by
    have : r = [] := List.mem_singleton.mp hr
    subst this
    exact ⟨rfl, fun w hw => by cases hw⟩
  | n + 1 => stepR_mem (allR_mem n)
theorem stepR_len (rs : List (List Str)) : (stepR rs).length = 3 * rs.length := by
  unfold stepR
  induction rs with
  | nil => rfl
  | cons a rs ih =>
    rw [List.flatMap_cons, List.length_append, ih, List.length_map, List.length_cons]
    show 3 + _ = _
    omega
theorem allR_len : ∀ n : Nat, (allR n).length = 3 ^ n
  | 0 => rfl
  | n + 1 => by
    show (stepR (allR n)).length = _
    rw [stepR_len, allR_len n, Nat.pow_succ, Nat.mul_comm]
theorem allR_small {n : Nat} (h : n ≤ 3) : (allR n).length ≤ 27 := by
  rw [allR_len]
  have : n = 0 ∨ n = 1 ∨ n = 2 ∨ n = 3 := by omega
  rcases this with rfl | rfl | rfl | rfl <;> decide
theorem stepR_take {rs : List (List Str)} {i : Nat} {r : List Str} (e : rs[i]? = some r) : stepR (rs.take (i + 1)) = stepR (rs.take i) ++ shW.map fun w => r ++ [w] := by
  unfold stepR
  rw [List.take_add_one, e, Option.toList_some, List.flatMap_append, List.flatMap_cons, List.flatMap_nil, List.append_nil]
theorem stepR_take_len (rs : List (List Str)) (i : Nat) : (stepR (rs.take i)).length ≤ 3 * rs.length := by
  rw [stepR_len, List.length_take]
  omega
def spShapes (K : PySem.W.Frag) (CB CE CP : Addr) : Sp := fun vs H Q E => ∃ x y, vs = [x, y] ∧ ((∃ (a : Addr) (wd : Wds) (n : Nat), x = .ref a ∧ BookAt CB H a wd ∧ wd.Ok ∧ y = .int (n : Int) ∧ 1 ≤ n ∧ n ≤ 3 ∧
    ∀ (l : Addr) (ps : List Addr) (H' : Hp), H l = none → Same H H' → H' l = some (.lst (ps.map V.ref)) → Tups H' ps (shapesL wd.o n) → Q (.ref l) H') ∨
  (NotB K CB H x ∧ Thr CE "part" .non H E) ∨ ∃ (a : Addr) (wd : Wds), x = .ref a ∧ BookAt CB H a wd ∧ NotP K H y ∧ Thr CP "value" y H E)
/-- within the making of longer rows -/
def PvS (H : Hp) (l D : Addr) (ps : List Addr) (rs : List (List Str)) (j : Nat) (H' : Hp) : Prop := Same H H' ∧ H' l = some (.lst (ps.map V.ref)) ∧ Tups H' ps rs ∧ ∃ qs : List Addr, H' D = some (.lst (qs.map V.ref)) ∧ Tups H' qs (stepR (rs.take j))
/-- within the choice of rows -/
def PvF (H : Hp) (l D : Addr) (ps : List Addr) (rs : List (List Str)) (o : Str) (j : Nat) (H' : Hp) : Prop := Same H H' ∧ H' l = some (.lst (ps.map V.ref)) ∧ Tups H' ps rs ∧ ∃ qs : List Addr, H' D = some (.lst (qs.map V.ref)) ∧ Tups H' qs ((rs.take j).filter (letB o))
theorem filter_take {rs : List (List Str)} {p : List Str → Bool} {i : Nat} {r : List Str} (e : rs[i]? = some r) : (rs.take (i + 1)).filter p = (rs.take i).filter p ++ (if p r = true then [r] else []) := by
  rw [List.take_add_one, e, Option.toList_some, List.filter_append]
  congr 1
  by_cases h : p r = true
  · rw [if_pos h, List.filter_cons_of_pos h]
    rfl
  · rw [if_neg h, List.filter_cons_of_neg h]
    rfl
theorem ref_at {ps : List Addr} {j : Nat} {x : V} (h : (ps.map V.ref)[j]? = some x) : ∃ q, ps[j]? = some q ∧ x = .ref q := by
  rw [List.getElem?_map] at h
  cases hp : ps[j]? with
  | none => rw [hp] at h; cases h
  | some q => rw [hp] at h; cases h; exact ⟨q, rfl, rfl⟩
/-- a list is written: the tuples stand -/
theorem Tups.lst {H : Hp} {qs : List Addr} {rs : List (List Str)} {D : Addr} {xs ys : List V} (h : Tups H qs rs) (hD : H D = some (.lst xs)) : Tups (upd H D (.lst ys)) qs rs := ⟨h.1, fun i q e => by
  obtain ⟨r, a1, o, a2, a3⟩ := h.2 i q e
  refine ⟨r, a1, o, ?_, a3⟩
  have : q ≠ D := fun e => by
    rw [e, hD] at a2
    cases a2
  rw [upd_ne this]
  exact a2⟩
/-- the words of a shape as they stand in the module -/
structure ShF (K : PySem.W.Frag) (mg : Str → Option Value) (TS : Addr) : Prop where
  g : mg "SHAPE_WORDS" = some (.ref TS)
  sq : ∀ H, SqT K H TS (shW.map V.str)
section
variable {P : Program} {w : World} {K : PySem.W.Frag} {mg : Str → Option Value} {base : Heap} {CB CE CP TS : Addr}
theorem ok_shapes {f fB fP fL p1 g1 : Addr} {fd fdB fdP fdL d1 : FuncData} (F : Fun K "shapes" "shapes" sShapes f fd) (T : Tx mg) (B : BF K mg CB) (Z : ShF K mg TS) (R : PrG P w K mg base CB "owner" p1 g1 d1)
    (mB : mg "check_book" = some (.ref fB)) (kB : PySem.W.keepIn K (.ref fB) = true) (bB : Binds K fdB ["book"] []) (GB : FnOk P w K mg base (CX P w) 3 fB fdB ["book"] (spChkB K CB CE))
    (mP : mg "check_places" = some (.ref fP)) (kP : PySem.W.keepIn K (.ref fP) = true) (bP : Binds K fdP ["places"] []) (GP : FnOk P w K mg base (CX P w) 3 fP fdP ["places"] (spChkP K CP))
    (mL : mg "_is_let_by" = some (.ref fL)) (kL : PySem.W.keepIn K (.ref fL) = true) (bL : Binds K fdL ["owner", "shape"] []) (GL : FnOk P w K mg base CX0 1 fL fdL ["owner", "shape"] spLetBy) :
    FnOk P w K mg base (CX P w) 4 f fd ["book", "places"] (spShapes K CB CE CP) := by
  refine F.okX scShapes (fun vs H Q E h => ?_) (fun cdv A outer s H vs Q E hr h => ?_)
  · obtain ⟨x, y, rfl, _⟩ := h
    rfl
  · obtain ⟨x, y, rfl, h⟩ := h
    refine ⟨_, pss_cons (ps_expr (pe_call GB hr (by rfl) mB kB bB .nil (passes_call (takes_of rfl rfl rfl rfl) (fun _ _ _ _ z => z)) (pa_cons (pv 0) pa_nil)))
      (pss_cons (ps_expr (pe_call GP hr (by rfl) mP kP bP .nil (passes_call (takes_of rfl rfl rfl rfl) (fun _ _ _ _ z => z)) (pa_cons (pv 1) pa_nil)))
      (pss_cons (ps_set (i := 2) scShapes.nd rfl (Or.inl rfl) (pe_lst (pa_cons (pe_tupF pa_nil) pa_nil)))
      (pss_cons (ps_for (passes_of rfl) rfl (pi_range1 (by rfl) T.range (pa_cons (pv 1) pa_nil)) (pg_name (i := 3) scShapes.nd rfl (Or.inl rfl))
        (pss_one (ps_setLc2 (i := 2) (own := [("row", 4), ("word", 5)]) (vs1 := [5]) (g := gName 4) (g1 := gName 5) (tt := tYes) (tt1 := tYes) (wi1 := iTup K (tC (.ref TS))) (te := tTupF (StX.tStar K (tVar 4) (tCons (tVar 5) tNil))) rfl scShapes.nd rfl rfl (sw_true rfl rfl rfl (by decide +kernel)) (pi_list (pv 2))
          (blkOk_by (own := [("row", 4), ("word", 5)]) (N := ["book", "places", "rows", "_", "row", "word"]) (sc := defScope sShapes) (by decide +kernel)) (by decide)
          (fun _ _ _ _ _ => pg_name (i := 4) scShapes.nd rfl (Or.inl rfl)) (fun _ _ _ _ _ => pts_nil) (fun _ _ _ _ _ => pi_tup (pe_glob (v := .ref TS) (by rfl) Z.g rfl)) (fun _ _ _ _ _ => pg_name (i := 5) scShapes.nd rfl (Or.inl rfl)) (fun _ _ _ _ _ => pts_nil)
          (fun _ _ _ _ _ => pe_tupF (StX.pa_star (pv 4) (pa_cons (pv 5) pa_nil))))))
      (pss_one (ps_ret (pe_lc (own := [("row", 4)]) (g := gName 4) rfl scShapes.nd (pi_list (pv 2)) (blkOk_by (own := [("row", 4)]) (N := ["book", "places", "rows", "_", "row", "word"]) (sc := defScope sShapes) (by decide +kernel)) (fun _ _ _ _ _ => pg_name (i := 4) scShapes.nd rfl (Or.inl rfl))
        (fun _ _ _ _ _ => pts_one (pt_val (pe_call GL (hr.mono (by decide)) (by rfl) mL kL bL .nil pass0 (pa_cons (pe_prop (pv 0) B.cl R.po R.g (hr.mono (by decide)) R.b .nil pass0 rfl) (pa_cons (pv 4) pa_nil))))) (fun _ _ _ _ _ => pv 4))))))), ?_⟩
    rcases h with ⟨a, wd, n, rfl, hb, hok, rfl, n1, n3, q⟩ | ⟨hn, q⟩ | ⟨a, wd, rfl, hb, hn, q⟩
    · refine ⟨_, rfl, _, rfl, .inl ⟨a, wd, rfl, hb, _, rfl, _, rfl, .inl ⟨n, rfl, n1, n3, ?_⟩⟩⟩
      refine ⟨by show 0 ≤ sizeLine; decide, fun t0 o0 nt0 dn0 => ⟨by show 1 ≤ sizeLine; decide, fun l0 nl0 => ?_⟩⟩
      have s0 : Same H (upd (upd H t0 (.frz o0 (.tup []))) l0 (.lst [V.ref t0])) := (same_new nt0).trans (same_new nl0)
      have hl0 : H l0 = none := none_of (same_new nt0) nl0
      have ht0 : (upd (upd H t0 (.frz o0 (.tup []))) l0 (.lst [V.ref t0])) t0 = some (.frz o0 (.tup [])) := by
        rw [upd_ne (ne_of_none upd_same nl0)]
        exact upd_same
      refine ⟨_, rfl, (n : Int), rfl, by omega, by omega, for_range (n := n) (fun i σ H' => ∃ (l : Addr) (ps : List Addr) (v3 : Option V), σ = [some (.ref a), some (.int n), some (.ref l), v3, none, none] ∧ H l = none ∧ Same H H' ∧ H' l = some (.lst (ps.map V.ref)) ∧ Tups H' ps (allR i)) ⟨l0, [t0], none, rfl, hl0, s0, upd_same, ?_⟩ ?_ ?_⟩
      · refine ⟨rfl, fun i q' e => ?_⟩
        cases i with
        | zero =>
          have e' : t0 = q' := by simpa using e
          subst e'
          exact ⟨[], rfl, o0, ht0, dn0⟩
        | succ i => simp at e
      · rintro i σ H1 hi ⟨l, ps, v3, rfl, nl, s1, hl, hT⟩
        refine ⟨_, rfl, l, rfl, ⟨_, SqL.of hl⟩, fun D nD => ?_⟩
        have nD0 : H D = none := none_of s1 nD
        have hnl : l ≠ D := ne_of_none hl nD
        refine Tk.lc2_list (K := K) (a := l) (xs := ps.map V.ref) (PvS H l D ps (allR i))
          ⟨same_upd s1 nD0, by rw [upd_ne hnl]; exact hl, hT.same (same_new nD), [], upd_same, by rw [List.take_zero]; exact Tups.nil⟩ (fun j H' _ p => SqL.of p.2.1) ?_ ?_
        · rintro j x H2 hx ⟨s2, hl2, hT2, qs, hD, hQ⟩
          obtain ⟨q0, hq0, rfl⟩ : ∃ q0, ps[j]? = some q0 ∧ x = .ref q0 := by
            rw [List.getElem?_map] at hx
            cases hp : ps[j]? with
            | none => rw [hp] at hx; cases hx
            | some q0 => rw [hp] at hx; cases hx; exact ⟨q0, rfl, rfl⟩
          obtain ⟨r, hr1, hr2⟩ := hT2.2 j q0 hq0
          refine ⟨rfl, ?_⟩
          unfold tYes
          refine iteT ?_
          refine ⟨TS, rfl, ⟨_, Z.sq _⟩, ?_⟩
          refine Tk.in_tup (K := K) (b := TS) (ys := shW.map V.str) (D := D) (Nx := PvS H l D ps (allR i) (j + 1)) (g1 := gName 5) (tt1 := tYes) (vs1 := [5]) (te := tTupF (StX.tStar K (tVar 4) (tCons (tVar 5) tNil))) (σ2 := [some (V.ref a), some (V.int n), some (V.ref l), some (V.int (0 + i)), some (V.ref q0), none]) (fun k H' => Same H H' ∧ H' l = some (.lst (ps.map V.ref)) ∧ Tups H' ps (allR i) ∧ ∃ qs : List Addr, H' D = some (.lst (qs.map V.ref)) ∧ Tups H' qs (stepR ((allR i).take j) ++ (shW.take k).map fun w => r ++ [w])) ⟨s2, hl2, hT2, qs, hD, by rw [List.take_zero, List.map_nil, List.append_nil]; exact hQ⟩ (fun k H' _ _ => Z.sq H') ?_ ?_
          · rintro k y H3 hy ⟨s3, hl3, hT3, qs3, hD3, hQ3⟩
            obtain ⟨wk, hwk, rfl⟩ : ∃ wk, shW[k]? = some wk ∧ y = .str wk := by
              rw [List.getElem?_map] at hy
              cases hp : shW[k]? with
              | none => rw [hp] at hy; cases hy
              | some q0 => rw [hp] at hy; cases hy; exact ⟨q0, rfl, rfl⟩
            have hr3 : TupF H3 q0 (r.map V.str) := by
              obtain ⟨r', e1, e2⟩ := hT3.2 j q0 hq0
              rw [hr1] at e1
              cases e1
              exact e2
            have hlen := (allR_mem i r (List.mem_of_getElem? hr1)).1
            have hi3 : i < 3 := by omega
            refine ⟨rfl, ?_⟩
            unfold tYes
            refine iteT ?_
            refine ⟨_, rfl, q0, _, rfl, .inl hr3.sq, _, rfl, ?_, fun p ob np dn => ⟨qs3.map V.ref, ?_, ?_, ?_⟩⟩
            · rw [List.length_append, List.length_map, hlen]
              exact Nat.le_trans (show i + 1 ≤ 1000 by omega) (by decide)
            · rw [upd_ne (ne_of_none hD3 np)]
              exact hD3
            · rw [List.length_map, hQ3.1, List.length_append, List.length_map, List.length_take]
              have h1 := stepR_take_len (allR i) j
              have h2 := allR_small (n := i) (by omega)
              have h3 : min k shW.length ≤ 3 := Nat.min_le_right _ _
              exact small1000 (by omega)
            · have np0 : H p = none := none_of s3 np
              have npD : p ≠ D := (ne_of_none hD3 np).symm
              have sA : Same H3 (upd H3 p (.frz ob (.tup (r.map V.str ++ [V.str wk])))) := same_new np
              have sB : ∀ {qs' rs'}, Tups (upd H3 p (.frz ob (.tup (r.map V.str ++ [V.str wk])))) qs' rs' → Tups (upd (upd H3 p (.frz ob (.tup (r.map V.str ++ [V.str wk])))) D (.lst (qs3.map V.ref ++ [V.ref p]))) qs' rs' := fun {qs' rs'} h => ⟨h.1, fun i' q' e' => by
                obtain ⟨r', a1, o', a2, a3⟩ := h.2 i' q' e'
                refine ⟨r', a1, o', ?_, a3⟩
                have : q' ≠ D := fun e => by
                  rw [e, upd_ne npD.symm, hD3] at a2
                  cases a2
                rw [upd_ne this]
                exact a2⟩
              refine ⟨same_upd (same_upd s3 np0) nD0, ?_, sB (hT3.same sA), qs3 ++ [p], ?_, sB ?_⟩
              · rw [upd_ne hnl, upd_ne (ne_of_none hl3 np)]
                exact hl3
              · rw [upd_same, List.map_append]
                rfl
              · rw [List.take_add_one, hwk, Option.toList_some, List.map_append, ← List.append_assoc]
                refine (hQ3.same sA).app ⟨ob, ?_, dn⟩
                rw [List.map_append, upd_same]
                rfl
          · rintro H3 ⟨s3, hl3, hT3, qs3, hD3, hQ3⟩
            refine ⟨s3, hl3, hT3, qs3, hD3, ?_⟩
            rw [stepR_take hr1]
            have : shW.take (shW.map V.str).length = shW := List.take_of_length_le (by rw [List.length_map]; exact Nat.le_refl _)
            rw [this] at hQ3
            exact hQ3
        · rintro H2 ⟨s2, hl2, hT2, qs, hD, hQ⟩
          refine ⟨D, qs, _, rfl, nD0, s2, hD, ?_⟩
          have : (allR i).take (ps.map V.ref).length = allR i := List.take_of_length_le (by rw [List.length_map, hT.1]; exact Nat.le_refl _)
          rw [this] at hQ
          exact hQ
      · rintro σ H1 ⟨l, ps, v3, rfl, nl, s1, hl, hT⟩
        refine ⟨_, rfl, l, rfl, ⟨_, SqL.of hl⟩, fun D nD => ?_⟩
        have nD0 : H D = none := none_of s1 nD
        have hnl : l ≠ D := ne_of_none hl nD
        refine lc_list (K := K) (a := l) (xs := ps.map V.ref) (PvF H l D ps (allR n) wd.o) ⟨same_upd s1 nD0, by rw [upd_ne hnl]; exact hl, hT.same (same_new nD), [], upd_same, by rw [List.take_zero]; exact Tups.nil⟩ (fun j H' _ p => SqL.of p.2.1) ?_ ?_
        · rintro j x H2 hx ⟨s2, hl2, hT2, qs, hD, hQ⟩
          obtain ⟨q0, hq0, rfl⟩ := ref_at hx
          obtain ⟨r, hr1, hr2⟩ := hT2.2 j q0 hq0
          have hmem := allR_mem n r (List.mem_of_getElem? hr1)
          have hb2 := hb.same s2
          obtain ⟨dx, d, hx2, _⟩ := id hb2
          refine ⟨rfl, ?_⟩
          refine ⟨_, rfl, a, dx, _, rfl, hx2, a, wd, rfl, hb2, _, rfl, _, q0, r, rfl, hr2, by rw [at_owner]; exact hok.1, ?_, hmem.2, fun H3 s3 => ?_⟩
          · intro e
            rw [e] at hmem
            have := hmem.1
            simp at this
            omega
          refine ⟨_, rfl, ?_⟩
          rw [at_owner]
          have hD3 := s3 _ _ hD
          by_cases hc : letB wd.o r = true
          · rw [hc]
            refine iteT ⟨_, rfl, qs.map V.ref, hD3, ?_, ?_, ?_, ?_, qs ++ [q0], ?_, ?_⟩
            · rw [List.length_map, hQ.1]
              have h1 : (((allR n).take j).filter (letB wd.o)).length ≤ (allR n).length := Nat.le_trans (List.length_filter_le _ _) (by rw [List.length_take]; exact Nat.min_le_right _ _)
              have h2 := allR_small (n := n) n3
              exact small1000 (by omega)
            · exact same_upd (s2.trans s3) nD0
            · rw [upd_ne hnl]
              exact s3 _ _ hl2
            · exact (hT2.same s3).lst hD3
            · rw [upd_same, List.map_append]
              rfl
            · rw [filter_take hr1, if_pos hc]
              exact ((hQ.same s3).app (hr2.same s3)).lst hD3
          · have hc' : letB wd.o r = false := by simpa using hc
            rw [hc']
            refine iteF ⟨s2.trans s3, s3 _ _ hl2, hT2.same s3, qs, hD3, ?_⟩
            rw [filter_take hr1, if_neg hc, List.append_nil]
            exact hQ.same s3
        · rintro H2 ⟨s2, hl2, hT2, qs, hD, hQ⟩
          have : (allR n).take (ps.map V.ref).length = allR n := List.take_of_length_le (by rw [List.length_map, hT.1]; exact Nat.le_refl _)
          rw [this] at hQ
          exact q D qs H2 nD0 s2 hD hQ
    · exact ⟨_, rfl, _, rfl, .inr ⟨hn, q⟩⟩
    · exact ⟨_, rfl, _, rfl, .inl ⟨a, wd, rfl, hb, _, rfl, _, rfl, .inr ⟨hn, q⟩⟩⟩
end
end K1
namespace K1
open PySem PySem.Spec PyProof.Rows L2 Bk
theorem scMEq : FnScope ["self", "other"] ["self", "other"] (defScope mEq) := ⟨rfl, rfl, rfl, by decide +kernel, rfl, by decide +kernel, by decide +kernel⟩
theorem scDraw : FnScope ["_law_script", "_law_k", "_law_cell", "_law_seed"] ["_law_script", "_law_k"] (defScope sDraw) := ⟨rfl, rfl, rfl, by decide +kernel, rfl, by decide +kernel, by decide +kernel⟩
theorem scTake : FnScope ["_law_pool", "_law_many", "_law_digit"] ["_law_pool", "_law_many"] (defScope sTake) := ⟨rfl, rfl, rfl, by decide +kernel, rfl, by decide +kernel, by decide +kernel⟩
theorem scNewWords : FnScope ["_law_pool", "_law_owning", "_law_looking", "_law_choosing", "_law_needs"] ["_law_pool"] (defScope sNewWords) := ⟨rfl, rfl, rfl, by decide +kernel, rfl, by decide +kernel, by decide +kernel⟩
theorem scMade : FnScope ["_law_words"] ["_law_words"] (defScope sMade) := ⟨rfl, rfl, rfl, by decide +kernel, rfl, by decide +kernel, by decide +kernel⟩
/-- a pool stands at p -/
def Pool (H : Hp) (p : Addr) : Prop := ∃ g s : Int, H p = some (.lst [.int g, .int s]) ∧ 0 ≤ s ∧ s < 2147483647
/-- all but p is as it was -/
def KeepP (p : Addr) (H H' : Hp) : Prop := ∀ b o, b ≠ p → H b = some o → H' b = some o
theorem KeepP.refl (p : Addr) (H : Hp) : KeepP p H H := fun _ _ _ h => h
theorem KeepP.trans {p : Addr} {H H1 H2 : Hp} (a : KeepP p H H1) (b : KeepP p H1 H2) : KeepP p H H2 := fun c o n h => b c o n (a c o n h)
theorem KeepP.upd {p : Addr} {H : Hp} {o : HO} : KeepP p H (upd H p o) := fun b _ n h => by
  rw [upd_ne n]
  exact h
theorem KeepP.same {p : Addr} {H H' : Hp} (h : Same H H') : KeepP p H H' := fun b o _ e => h b o e
theorem KeepP.new {p q : Addr} {H : Hp} {o : HO} (h : H q = none) : KeepP p H (L2.upd H q o) := KeepP.same (same_new h)
theorem Pool.same {p : Addr} {H H' : Hp} (h : Pool H p) (s : Same H H') : Pool H' p := let ⟨g, z, e, r⟩ := h; ⟨g, z, s _ _ e, r⟩
/-- an address that is new now was new ahead -/
theorem KeepP.none {p q : Addr} {H H' : Hp} (k : KeepP p H H') (hp : Pool H' p) (h : H' q = Option.none) : H q = Option.none := by
  cases e : H q with
  | none => rfl
  | some o =>
    have nq : q ≠ p := fun z => by
      obtain ⟨_, _, e2, _⟩ := hp
      rw [z, e2] at h
      cases h
    have := k q o nq e
    rw [h] at this
    cases this
theorem KeepP.seq {K : PySem.W.Frag} {p a : Addr} {H H' : Hp} {xs : List V} (k : KeepP p H H') (n : a ≠ p) (h : SqL K H a xs) : SqL K H' a xs := by
  rcases h with (h | ⟨o, h⟩) | h
  · exact .inl (.inl (k _ _ n h))
  · exact .inl (.inr ⟨o, k _ _ n h⟩)
  · exact .inr h
theorem seq_same {K : PySem.W.Frag} {a : Addr} {H H' : Hp} {xs : List V} (k : Same H H') (h : SqL K H a xs) : SqL K H' a xs := by
  rcases h with (h | ⟨o, h⟩) | h
  · exact .inl (.inl (k _ _ h))
  · exact .inl (.inr ⟨o, k _ _ h⟩)
  · exact .inr h
/-- == of two books with the same words -/
def spMEq (CB : Addr) : Sp := fun vs H Q _ => ∃ (x y : Addr) (wd : Wds), vs = [.ref x, .ref y] ∧ BookAt CB H x wd ∧ BookAt CB H y wd ∧ Q (.bl true) H
def spDraw (K : PySem.W.Frag) : Sp := fun vs H Q _ => ∃ (a : Addr) (ns : List Int) (k : Nat), vs = [.ref a, .int (k : Int)] ∧ SqL K H a (ns.map V.int) ∧ ns.length ≤ 1000 ∧ k < 100 ∧
  ∀ (p : Addr) (H' : Hp), H p = none → Same H H' → Pool H' p → Q (.ref p) H'
def spTake : Sp := fun vs H Q _ => ∃ (p : Addr) (m : Int), vs = [.ref p, .int m] ∧ Pool H p ∧ 0 < m ∧ m < 1073741824 ∧ ∀ (d : Int) (H' : Hp), 0 ≤ d → d < m → Pool H' p → KeepP p H H' → Q (.int d) H'
def spNewWords : Sp := fun vs H Q _ => ∃ p : Addr, vs = [.ref p] ∧ Pool H p ∧ ∀ (l : Addr) (wd : Wds) (H' : Hp), wd.Ok → H l = none → Pool H' p → KeepP p H H' → H' l = some (.lst (wd.list.map V.str)) → Q (.ref l) H'
def spMade (K : PySem.W.Frag) (CB : Addr) : Sp := fun vs H Q _ => ∃ (l : Addr) (wd : Wds), vs = [.ref l] ∧ SqL K H l (wd.list.map V.str) ∧ wd.Ok ∧ ∀ (x : Addr) (H' : Hp), H x = none → Same H H' → BookAt CB H' x wd → Q (.ref x) H'
theorem dp_ints {K : PySem.W.Frag} {H : Hp} : ∀ ns : List Int, DpAll K H (ns.map V.int) (ns.map PyData.int)
  | [] => .nil
  | n :: ns => .cons (.int n) (dp_ints ns)
theorem lay_ints : ∀ ns : List Int, PyData.canLayAll0 (ns.map PyData.int) = true
  | [] => rfl
  | n :: ns => by
    rw [List.map_cons, PyData.canLayAll0, lay_ints ns, PyData.canLay0]
    rfl
theorem dep_ints : ∀ ns : List Int, PyData.depthAll (ns.map PyData.int) = 0
  | [] => by rw [List.map_nil, PyData.depthAll]
  | n :: ns => by
    rw [List.map_cons, PyData.depthAll, dep_ints ns, PyData.depth]
    rfl
theorem shaped_ints (ns : List Int) : SeqAt.shaped (.list (ns.map PyData.int)) = true := by
  unfold SeqAt.shaped
  rw [PyData.canLay0, lay_ints, PyData.depth, dep_ints]
  decide
theorem kvs_self (wd : Wds) : ∀ q ∈ wd.kvs, valV wd.kvs q.1 = some q.2 ∧ flatB q.2 = true := by
  have g := kvs5_get (.str wd.o) (.str wd.l) (.str wd.c) (.str wd.n) (.str wd.e)
  intro q hq
  rw [Wds.kvs_eq] at hq ⊢
  have hq' := hq
  unfold kvs5 at hq'
  simp only [List.mem_cons, List.not_mem_nil, or_false] at hq'
  rcases hq' with rfl | rfl | rfl | rfl | rfl
  · exact ⟨g.1, rfl⟩
  · exact ⟨g.2.1, rfl⟩
  · exact ⟨g.2.2.1, rfl⟩
  · exact ⟨g.2.2.2.1, rfl⟩
  · exact ⟨g.2.2.2.2, rfl⟩
section
variable {P : Program} {w : World} {K : PySem.W.Frag} {mg : Str → Option Value} {base : Heap} {CB : Addr}
theorem ok_meq {f : Addr} {fd : FuncData} (F : Fun K "__eq__" "Book.__eq__" mEq f fd) (T : Tx mg) (B : BF K mg CB) : FnOk P w K mg base CX0 1 f fd ["self", "other"] (spMEq CB) := by
  refine F.ok scMEq (fun vs H Q E h => ?_) (fun cdv A outer s H vs Q E hr h => ?_)
  · obtain ⟨x, y, wd, rfl, _⟩ := h
    rfl
  · obtain ⟨x, y, wd, rfl, ⟨dx, d, hx, hd⟩, ⟨dy, e, hy, he⟩, q⟩ := h
    refine ⟨_, pss_one (ps_ret (pe_and (pe_callB call_isi (by rfl) T.isi (by decide +kernel) (pa_cons (pv 1) (pa_cons (pe_glob (v := .ref CB) (by rfl) B.gB rfl) pa_nil))) (pe_one (pe_cmpR (op_eq_dictA hr.units0) (pe_fld (pv 0) rfl) (pe_fld (pv 1) rfl) (nomark _))))), ?_⟩
    refine ⟨_, rfl, _, _, _, _, true, rfl, .own CB, .base (.ins hy B.cl B.ha B.hn B.htk B.hm), B.own, true, rfl, iteT ?_⟩
    exact ⟨_, rfl, x, CB, dx, _, _, rfl, hx, B.cl, B.nC, rfl, _, rfl, y, CB, dy, _, _, rfl, hy, B.cl, B.nC, rfl, d, e, _, _, rfl, rfl, hd, he, rfl, kvs_self wd, q⟩
theorem ok_draw {f : Addr} {fd : FuncData} (F : Fun K "_law_draw" "_law_draw" sDraw f fd) (T : Tx mg) : FnOk P w K mg base CX0 1 f fd ["_law_script", "_law_k"] (spDraw K) := by
  refine F.ok scDraw (fun vs H Q E h => ?_) (fun cdv A outer s H vs Q E hr h => ?_)
  · obtain ⟨a, ns, k, rfl, _⟩ := h
    rfl
  · obtain ⟨a, ns, k, rfl, hS, hn, hk, q⟩ := h
    refine ⟨_, pss_cons (ps_set (i := 2) scDraw.nd rfl (Or.inl rfl) pe_int)
      (pss_cons (ps_if (pt_cmpR (op_neD hr.units) (pv 0) (pe_lst pa_nil) (nomark _)) (pss_one (ps_set (i := 2) scDraw.nd rfl (Or.inl rfl) (pe_ix ix_list (pv 0) (pe_op op_mod (pe_callTy call_int1 (by rfl) T.int (by decide +kernel) (pa_cons (pv 1) pa_nil)) (pe_callB call_len_seq (by rfl) T.len PySem.boot_len (pa_cons (pv 0) pa_nil))) (fun _ _ => rfl)))) pss_nil)
      (pss_cons (ps_set (i := 3) scDraw.nd rfl (Or.inl rfl) (pe_op op_mod (pe_op op_mul (pe_callTy call_int1 (by rfl) T.int (by decide +kernel) (pa_cons (pe_op op_add (pe_op op_add (pe_op op_mod (pe_callTy call_int1 (by rfl) T.int (by decide +kernel) (pa_cons (pv 2) pa_nil)) pe_int) (pe_op op_mul pe_int (pv 1))) pe_int) pa_nil)) pe_int) pe_int))
      (pss_one (ps_ret (pe_lst (pa_cons (pe_op op_mul (pv 2) (pe_callTy call_int1 (by rfl) T.int (by decide +kernel) (pa_cons (pe_cmpR op_ge (pv 2) (pe_op op_pow pe_int pe_int) (nomark _)) pa_nil))) (pa_cons (pv 3) pa_nil))))))), ?_⟩
    refine ⟨_, rfl, by show 0 ≤ sizeLine; decide, fun l nl => ?_⟩
    refine ⟨.list (ns.map PyData.int), .list [], .lst (seq_same (same_new nl) hS) (dp_ints ns), .lst (SqL.of upd_same) .nil, shaped_ints ns, by decide +kernel, _, rfl, ?_⟩
    have s1 : Same H (upd H l (.lst [])) := same_new nl
    have last : ∀ (c : Int), ∀ p, (upd H l (.lst [])) p = none → Q (.ref p) (upd (upd H l (.lst [])) p (.lst [.int (c * (if (decide ((10 : Int) ^ 18 ≤ c)) = true then 1 else 0)), .int ((c % 2147483629 + 104729 * (k : Int) + 11) * 48271 % 2147483647)])) := by
      intro c p np
      exact q p _ (none_of s1 np) (s1.trans (same_new np)) ⟨_, _, upd_same, Int.emod_nonneg _ (by decide), Int.emod_lt_of_pos _ (by decide)⟩
    cases ns with
    | nil =>
      rw [show (!PyData.eqv (.list (([] : List Int).map PyData.int)) (.list [])) = false by decide +kernel]
      refine iteF ?_
      refine ⟨_, rfl, .inl ⟨_, rfl, _, _, rfl, rfl, (by show (0 : Int) < _; decide), ?_⟩⟩
      refine ⟨_, rfl, _, _, rfl, rfl, .inl ⟨by decide, by decide⟩, _, _, rfl, rfl, _, _, rfl, rfl, .inl ⟨_, rfl, _, _, rfl, rfl, .inr ⟨by decide, by decide⟩, _, _, rfl, rfl, (by show (0 : Int) < _; decide), ?_⟩⟩
      refine ⟨_, rfl, _, rfl, 10, 18, rfl, rfl, ⟨by decide, by decide, by decide⟩, _, _, rfl, rfl, .inr ⟨_, rfl, _, _, rfl, rfl, .inr ⟨?_, ?_⟩, _, rfl, by show 2 ≤ sizeLine; decide, fun p np => last _ p np⟩⟩
      · split <;> decide
      · split <;> decide
    | cons n0 ns =>
      rw [show (!PyData.eqv (.list ((n0 :: ns).map PyData.int)) (.list [])) = true by rw [List.map_cons, PyData.eqv, PyData.eqvAll]; rfl]
      refine iteT ?_
      have hlen : (0 : Int) < (((n0 :: ns).map V.int).length : Nat) := by rw [List.length_map, List.length_cons]; omega
      have hS1 : SqL K (upd H l (.lst [])) a ((n0 :: ns).map V.int) := seq_same s1 hS
      obtain ⟨j, hj1, hj2⟩ : ∃ j : Nat, (k : Int) % (((n0 :: ns).map V.int).length : Nat) = (j : Int) ∧ j < (n0 :: ns).length := by
        have h1 := Int.emod_nonneg (k : Int) (Int.ne_of_gt hlen)
        have h2 := Int.emod_lt_of_pos (k : Int) hlen
        refine ⟨((k : Int) % (((n0 :: ns).map V.int).length : Nat)).toNat, by omega, ?_⟩
        rw [List.length_map] at h1 h2 ⊢
        omega
      refine ⟨_, rfl, _, rfl, .inl ⟨_, rfl, _, rfl, a, _, rfl, .inl hS1, _, _, rfl, rfl, hlen, a, _, _, V.int (n0 :: ns)[j], rfl, rfl, hS1, by rw [hj1]; exact atI_nat (by rw [List.getElem?_map, List.getElem?_eq_getElem hj2]; rfl), ?_⟩⟩
      refine ⟨_, rfl, .inl ⟨_, rfl, _, _, rfl, rfl, (by show (0 : Int) < _; decide), ?_⟩⟩
      refine ⟨_, rfl, _, _, rfl, rfl, .inl ⟨by decide, by decide⟩, _, _, rfl, rfl, _, _, rfl, rfl, .inl ⟨_, rfl, _, _, rfl, rfl, .inr ⟨by decide, by decide⟩, _, _, rfl, rfl, (by show (0 : Int) < _; decide), ?_⟩⟩
      refine ⟨_, rfl, _, rfl, 10, 18, rfl, rfl, ⟨by decide, by decide, by decide⟩, _, _, rfl, rfl, .inr ⟨_, rfl, _, _, rfl, rfl, .inr ⟨?_, ?_⟩, _, rfl, by show 2 ≤ sizeLine; decide, fun p np => last _ p np⟩⟩
      · split <;> decide
      · split <;> decide
theorem ok_take {f : Addr} {fd : FuncData} (F : Fun K "_law_take" "_law_take" sTake f fd) (T : Tx mg) : FnOk P w K mg base CX0 1 f fd ["_law_pool", "_law_many"] spTake := by
  refine F.ok scTake (fun vs H Q E h => ?_) (fun cdv A outer s H vs Q E hr h => ?_)
  · obtain ⟨p, m, rfl, _⟩ := h
    rfl
  · obtain ⟨p, m, rfl, ⟨g, z, hp, z0, z1⟩, m0, m1, q⟩ := h
    refine ⟨_, pss_cons (ps_if (pt_cmpR op_gt (pe_ix ix_list (pv 0) pe_int (fun _ _ => rfl)) pe_int (nomark _))
        (pss_cons (ps_set (i := 2) scTake.nd rfl (Or.inl rfl) (pe_op op_mod (pe_callTy call_int1 (by rfl) T.int (by decide +kernel) (pa_cons (pe_ix ix_list (pv 0) pe_int (fun _ _ => rfl)) pa_nil)) (pv 1)))
        (pss_cons (ps_asg (pe_op op_fdiv (pe_ix ix_list (pv 0) pe_int (fun _ _ => rfl)) (pv 1)) (pg_sub (pv 0) pe_int set_list))
        (pss_one (ps_ret (pv 2))))) pss_nil)
      (pss_cons (ps_asg (pe_op op_mod (pe_callTy call_int1 (by rfl) T.int (by decide +kernel) (pa_cons (pe_op op_add (pe_op op_mul (pe_ix ix_list (pv 0) pe_int (fun _ _ => rfl)) pe_int) pe_int) pa_nil)) pe_int) (pg_sub (pv 0) pe_int set_list))
      (pss_one (ps_ret (pe_op op_mod (pe_callTy call_int1 (by rfl) T.int (by decide +kernel) (pa_cons (pe_op op_fdiv (pe_op op_mod (pe_callTy call_int1 (by rfl) T.int (by decide +kernel) (pa_cons (pe_op op_mul (pe_ix ix_list (pv 0) pe_int (fun _ _ => rfl)) (pe_ix ix_list (pv 0) pe_int (fun _ _ => rfl))) pa_nil)) pe_int) pe_int) pa_nil)) (pv 1))))), ?_⟩
    refine ⟨_, rfl, p, _, 0, .int g, rfl, rfl, SqL.of hp, atI_nat (j := 0) rfl, _, _, rfl, rfl, _, rfl, ?_⟩
    refine ite2 (fun c => ?_) (fun c => ?_)
    · refine ⟨_, rfl, p, _, 0, .int g, rfl, rfl, SqL.of hp, atI_nat (j := 0) rfl, .inl ⟨_, rfl, _, rfl, _, _, rfl, rfl, m0, ?_⟩⟩
      refine ⟨_, rfl, p, _, 0, .int g, rfl, rfl, SqL.of hp, atI_nat (j := 0) rfl, _, rfl, _, _, rfl, rfl, ⟨m0, m1⟩, ?_⟩
      refine ⟨_, rfl, p, _, 0, 0, rfl, rfl, hp, rfl, ?_⟩
      refine ⟨_, rfl, q _ _ (Int.emod_nonneg _ (by omega)) (Int.emod_lt_of_pos _ m0) ⟨_, z, upd_same, z0, z1⟩ KeepP.upd⟩
    · refine ⟨_, rfl, p, _, 1, .int z, rfl, rfl, SqL.of hp, atI_nat (j := 1) rfl, _, _, rfl, rfl, .inl ⟨by omega, by omega⟩, _, _, rfl, rfl, .inl ⟨_, rfl, _, _, rfl, rfl, (by show (0 : Int) < _; decide), ?_⟩⟩
      refine ⟨_, rfl, p, _, 1, 1, rfl, rfl, hp, rfl, ?_⟩
      have s0 := Int.emod_nonneg (z * 48271 + 11) (by decide : (2147483647 : Int) ≠ 0)
      have s1 := Int.emod_lt_of_pos (z * 48271 + 11) (by decide : (0 : Int) < 2147483647)
      refine ⟨_, rfl, p, _, 1, _, rfl, rfl, SqL.of upd_same, atI_nat (j := 1) rfl, _, rfl, p, _, 1, _, rfl, rfl, SqL.of upd_same, atI_nat (j := 1) rfl, _, _, rfl, rfl, .inl ⟨by omega, by omega⟩, .inl ⟨_, rfl, _, _, rfl, rfl, (by show (0 : Int) < _; decide), _, _, rfl, rfl, ⟨by decide, by decide⟩, .inl ⟨_, rfl, _, rfl, _, _, rfl, rfl, m0, ?_⟩⟩⟩
      exact q _ _ (Int.emod_nonneg _ (by omega)) (Int.emod_lt_of_pos _ m0) ⟨g, _, upd_same, s0, s1⟩ KeepP.upd
theorem str_at {ws : List Str} {j : Nat} (h : j < ws.length) : (ws.map V.str)[j]? = some (V.str ws[j]) := by
  rw [List.getElem?_map, List.getElem?_eq_getElem h]
  rfl
theorem ok_newWords {f fT : Addr} {fd fdT : FuncData} (F : Fun K "_law_new_words" "_law_new_words" sNewWords f fd) (mT : mg "_law_take" = some (.ref fT)) (kT : PySem.W.keepIn K (.ref fT) = true) (bT : Binds K fdT ["_law_pool", "_law_many"] []) (GT : FnOk P w K mg base CX0 1 fT fdT ["_law_pool", "_law_many"] spTake) :
    FnOk P w K mg base CX0 2 f fd ["_law_pool"] spNewWords := by
  refine F.ok scNewWords (fun vs H Q E h => ?_) (fun cdv A outer s H vs Q E hr h => ?_)
  · obtain ⟨p, rfl, _⟩ := h
    rfl
  · obtain ⟨p, rfl, hp, q⟩ := h
    refine ⟨_, pss_cons (ps_set (i := 1) scNewWords.nd rfl (Or.inl rfl) (pe_ix ix_list (pe_lst (pa_cons pe_str (pa_cons pe_str (pa_cons pe_str (pa_cons pe_str pa_nil))))) (pe_call GT hr (by rfl) mT kT bT .nil pass0 (pa_cons (pv 0) (pa_cons pe_int pa_nil))) (fun _ _ => rfl))) <|
      pss_cons (ps_set (i := 2) scNewWords.nd rfl (Or.inl rfl) (pe_ix ix_list (pe_lst (pa_cons pe_str (pa_cons pe_str (pa_cons pe_str (pa_cons pe_str pa_nil))))) (pe_call GT hr (by rfl) mT kT bT .nil pass0 (pa_cons (pv 0) (pa_cons pe_int pa_nil))) (fun _ _ => rfl))) <|
      pss_cons (ps_set (i := 3) scNewWords.nd rfl (Or.inl rfl) (pe_ix ix_list (pe_lst (pa_cons pe_str (pa_cons pe_str (pa_cons pe_str pa_nil)))) (pe_call GT hr (by rfl) mT kT bT .nil pass0 (pa_cons (pv 0) (pa_cons pe_int pa_nil))) (fun _ _ => rfl))) <|
      pss_cons (ps_set (i := 4) scNewWords.nd rfl (Or.inl rfl) (pe_ix ix_list (pe_lst (pa_cons pe_str (pa_cons pe_str pa_nil))) (pe_call GT hr (by rfl) mT kT bT .nil pass0 (pa_cons (pv 0) (pa_cons pe_int pa_nil))) (fun _ _ => rfl))) <|
      pss_one (ps_ret (pe_lst (pa_cons (pv 1) (pa_cons (pv 2) (pa_cons (pv 3) (pa_cons (pv 4) (pa_cons (pe_ix ix_list (pe_lst (pa_cons pe_str (pa_cons pe_str (pa_cons pe_str pa_nil)))) (pe_call GT hr (by rfl) mT kT bT .nil pass0 (pa_cons (pv 0) (pa_cons pe_int pa_nil))) (fun _ _ => rfl)) pa_nil))))))), ?_⟩
    have draw : ∀ (ws : List Str) {H1 : Hp} {Q1 : VK} {l : Addr}, Pool H1 p → H1 l = none → (0 : Int) < ws.length → ((ws.length : Nat) : Int) < 1073741824 → (∀ (z : Str) (H2 : Hp), z ∈ ws → Pool H2 p → KeepP p H1 H2 → Q1 (.str z) H2) →
        spTake [.ref p, .int ((ws.length : Nat) : Int)] (upd H1 l (.lst (ws.map V.str))) (fun v H2 => ∃ a xs i x, V.ref l = .ref a ∧ v = .int i ∧ SqL K H2 a xs ∧ L2.atI xs i = some x ∧ Q1 x H2) E := by
      intro ws H1 Q1 l hp1 nl h0 h1 hq
      have npl : l ≠ p := by
        obtain ⟨_, _, e, _⟩ := hp1
        exact (ne_of_none e nl).symm
      refine ⟨p, _, rfl, hp1.same (same_new nl), h0, h1, fun d H2 d0 d1 hp2 k2 => ?_⟩
      obtain ⟨j, rfl⟩ : ∃ j : Nat, d = (j : Int) := ⟨d.toNat, by omega⟩
      have hj : j < ws.length := by omega
      exact ⟨l, _, _, .str ws[j], rfl, rfl, SqL.of (k2 _ _ npl upd_same), atI_nat (str_at hj), hq _ _ (List.getElem_mem hj) hp2 ((KeepP.new nl).trans k2)⟩
    have np1 : p ≠ p → False := fun h => h rfl
    refine ⟨by show 4 ≤ sizeLine; decide, fun l1 nl1 => ⟨_, rfl, draw oW hp nl1 (by decide) (by decide) fun z1 H1 hz1 hp1 k1 => ?_⟩⟩
    refine ⟨by show 4 ≤ sizeLine; decide, fun l2 nl2 => ⟨_, rfl, draw lW hp1 nl2 (by decide) (by decide) fun z2 H2 hz2 hp2 k2 => ?_⟩⟩
    refine ⟨by show 3 ≤ sizeLine; decide, fun l3 nl3 => ⟨_, rfl, draw cW hp2 nl3 (by decide) (by decide) fun z3 H3 hz3 hp3 k3 => ?_⟩⟩
    refine ⟨by show 2 ≤ sizeLine; decide, fun l4 nl4 => ⟨_, rfl, draw nW hp3 nl4 (by decide) (by decide) fun z4 H4 hz4 hp4 k4 => ?_⟩⟩
    refine ⟨_, rfl, _, rfl, _, rfl, _, rfl, by show 3 ≤ sizeLine; decide, fun l5 nl5 => ⟨_, rfl, draw eW hp4 nl5 (by decide) (by decide) fun z5 H5 hz5 hp5 k5 => ?_⟩⟩
    have kk : KeepP p H H5 := (((k1.trans k2).trans k3).trans k4).trans k5
    refine ⟨by show 5 ≤ sizeLine; decide, fun l nl => ?_⟩
    exact q l ⟨z1, z2, z3, z4, z5⟩ _ ⟨hz1, hz2, hz3, hz4, hz5⟩ (kk.none hp5 nl) (hp5.same (same_new nl)) (kk.trans (KeepP.new nl)) upd_same
def kw5 : List Str := ["owner", "look", "choose", "wants", "early"]
theorem ok_made {f fI : Addr} {fd fdI : FuncData} (F : Fun K "_law_made_book" "_law_made_book" sMade f fd) (B : BF K mg CB) (M : Mk K CB fI) (hb : KBn K fdI ["self", "owner", "look", "choose", "wants", "early"] 1 kw5 (fun us ws => us ++ ws) (fun vs zs => vs ++ zs)) (GI : FnOk P w K mg base CX0 2 fI fdI ["self", "owner", "look", "choose", "wants", "early"] (spInit CB)) :
    FnOk P w K mg base CX0 4 f fd ["_law_words"] (spMade K CB) := by
  refine F.ok scMade (fun vs H Q E h => ?_) (fun cdv A outer s H vs Q E hr h => ?_)
  · obtain ⟨l, wd, rfl, _⟩ := h
    rfl
  · obtain ⟨l, wd, rfl, hS, hok, q⟩ := h
    refine ⟨_, pss_one (ps_ret (pe_makeK0 M GI hr (by rfl) B.gB hb pass0 (pk_cons (pe_ix ix_list (pv 0) pe_int (fun _ _ => rfl)) (pk_cons (pe_ix ix_list (pv 0) pe_int (fun _ _ => rfl)) (pk_cons (pe_ix ix_list (pv 0) pe_int (fun _ _ => rfl)) (pk_cons (pe_ix ix_list (pv 0) pe_int (fun _ _ => rfl)) (pk_cons (pe_ix ix_list (pv 0) pe_int (fun _ _ => rfl)) pk_nil))))))), ?_⟩
    refine ⟨_, rfl, l, _, 0, _, rfl, rfl, hS, atI_nat (j := 0) rfl, _, rfl, l, _, 1, _, rfl, rfl, hS, atI_nat (j := 1) rfl, _, rfl, l, _, 2, _, rfl, rfl, hS, atI_nat (j := 2) rfl, _, rfl, l, _, 3, _, rfl, rfl, hS, atI_nat (j := 3) rfl, _, rfl, l, _, 4, _, rfl, rfl, hS, atI_nat (j := 4) rfl, rfl, rfl, fun x dx nx ndx ne => ?_⟩
    refine ⟨x, dx, wd, rfl, upd_same, hok, fun d nd => ⟨rfl, q x _ nx ?_ ⟨dx, d, upd_same, ?_⟩⟩⟩
    · have nd1 : H d = none := by
        rw [upd_ne (show d ≠ x from fun e => by rw [e, upd_same] at nd; cases nd)] at nd
        by_cases e : d = dx
        · rw [e, upd_same] at nd
          cases nd
        · rw [upd_ne e] at nd
          exact nd
      intro b o e
      rw [upd_ne (ne_of_none e nx), upd_ne (ne_of_none e nd1), upd_ne (ne_of_none e nx), upd_ne (ne_of_none e ndx)]
      exact e
    · rw [upd_ne (show d ≠ x from fun e => by rw [e, upd_same] at nd; cases nd), upd_same]
end
end K1
namespace K1
open PySem PySem.Spec PyProof.Rows L2 Bk
theorem scLets : FnScope ["_law_owning", "_law_shape", "_law_word"] ["_law_owning", "_law_shape"] (defScope sLets) := ⟨rfl, rfl, rfl, by decide +kernel, rfl, by decide +kernel, by decide +kernel⟩
theorem scLShapes : FnScope ["_law_owning", "_law_places", "_law_rows", "_law_place", "_law_longer", "_law_row", "_law_word"] ["_law_owning", "_law_places"] (defScope sLShapes) := ⟨rfl, rfl, rfl, by decide +kernel, rfl, by decide +kernel, by decide +kernel⟩
/-- as many qs as rs, each pair by P -/
def Lst2 {α β : Type} (P : α → β → Prop) (qs : List α) (rs : List β) : Prop := qs.length = rs.length ∧ ∀ (i : Nat) (q : α), qs[i]? = some q → ∃ r, rs[i]? = some r ∧ P q r
theorem Lst2.imp {α β : Type} {P P' : α → β → Prop} {qs : List α} {rs : List β} (h : Lst2 P qs rs) (f : ∀ q r, P q r → P' q r) : Lst2 P' qs rs := ⟨h.1, fun i q e => let ⟨r, a, b⟩ := h.2 i q e; ⟨r, a, f _ _ b⟩⟩
theorem Lst2.nil {α β : Type} {P : α → β → Prop} : Lst2 P [] [] := ⟨rfl, fun i q e => by simp at e⟩
theorem Lst2.app {α β : Type} {P : α → β → Prop} {qs : List α} {rs : List β} {q : α} {r : β} (h : Lst2 P qs rs) (t : P q r) : Lst2 P (qs ++ [q]) (rs ++ [r]) := by
  refine ⟨by rw [List.length_append, List.length_append, h.1]; rfl, fun i q' e => ?_⟩
  by_cases hi : i < qs.length
  · rw [List.getElem?_append_left hi] at e
    obtain ⟨r', a, b⟩ := h.2 i q' e
    exact ⟨r', by rw [List.getElem?_append_left (by rw [← h.1]; exact hi)]; exact a, b⟩
  · rw [List.getElem?_append_right (by omega)] at e
    have hz : i - qs.length = 0 := by
      cases hk : i - qs.length with
      | zero => rfl
      | succ k =>
        rw [hk] at e
        simp at e
    rw [hz] at e
    have e' : q = q' := by simpa using e
    subst e'
    refine ⟨r, ?_, t⟩
    rw [List.getElem?_append_right (by rw [← h.1]; omega), ← h.1, hz]
    rfl
theorem Lst2.cat {α β : Type} {P : α → β → Prop} {qs qs' : List α} {rs rs' : List β} (h : Lst2 P qs rs) (h' : Lst2 P qs' rs') : Lst2 P (qs ++ qs') (rs ++ rs') := by
  refine ⟨by rw [List.length_append, List.length_append, h.1, h'.1], fun i q e => ?_⟩
  by_cases hi : i < qs.length
  · rw [List.getElem?_append_left hi] at e
    obtain ⟨r, a, b⟩ := h.2 i q e
    exact ⟨r, by rw [List.getElem?_append_left (by rw [← h.1]; exact hi)]; exact a, b⟩
  · rw [List.getElem?_append_right (by omega)] at e
    obtain ⟨r, a, b⟩ := h'.2 _ q e
    exact ⟨r, by rw [List.getElem?_append_right (by rw [← h.1]; omega), ← h.1]; exact a, b⟩
/-- at q a tuple of the texts r -/
def TQ (K : PySem.W.Frag) (H : Hp) (q : Addr) (r : List Str) : Prop := SqT K H q (r.map V.str)
theorem sqT_same {K : PySem.W.Frag} {H H' : Hp} {q : Addr} {xs : List V} (h : SqT K H q xs) (s : Same H H') : SqT K H' q xs := by
  rcases h with (h | ⟨o, h⟩) | h
  · exact .inl (.inl (s _ _ h))
  · exact .inl (.inr ⟨o, s _ _ h⟩)
  · exact .inr h
theorem sqT_lst {K : PySem.W.Frag} {H : Hp} {q D : Addr} {xs ys zs : List V} (h : SqT K H q xs) (hD : H D = some (.lst ys)) : SqT K (upd H D (.lst zs)) q xs := by
  rcases h with (h | ⟨o, h⟩) | h
  · refine .inl (.inl ?_)
    rw [upd_ne (show q ≠ D from fun e => by rw [e, hD] at h; cases h)]
    exact h
  · refine .inl (.inr ⟨o, ?_⟩)
    rw [upd_ne (show q ≠ D from fun e => by rw [e, hD] at h; cases h)]
    exact h
  · exact .inr h
theorem Tups.tq {K : PySem.W.Frag} {H : Hp} {qs : List Addr} {rs : List (List Str)} (h : Tups H qs rs) : Lst2 (TQ K H) qs rs := ⟨h.1, fun i q e => let ⟨r, a, b⟩ := h.2 i q e; ⟨r, a, b.sq⟩⟩
def spLets (K : PySem.W.Frag) : Sp := fun vs H Q _ => ∃ (o : Str) (p : Addr) (r : List Str), vs = [.str o, .ref p] ∧ TQ K H p r ∧ r ≠ [] ∧ Q (.bl (letB o r)) H
def spLShapes (K : PySem.W.Frag) : Sp := fun vs H Q _ => ∃ (o : Str) (n : Nat), vs = [.str o, .int (n : Int)] ∧ 1 ≤ n ∧ n ≤ 3 ∧ ∀ (l : Addr) (ps : List Addr) (H' : Hp), H l = none → Same H H' → H' l = some (.lst (ps.map V.ref)) → Lst2 (TQ K H') ps (shapesL o n) → Q (.ref l) H'
section
variable {P : Program} {w : World} {K : PySem.W.Frag} {mg : Str → Option Value} {base : Heap} {CB : Addr}
theorem early_skip : ∀ (r : List Str) (i : Nat) (a : Str), r[i]? = some a → (∀ m, m < i → r[m]? = some ("seen" : Str)) → earlyB r = if a = "seen" then earlyB (r.drop (i + 1)) else decide (a = "own")
  | [], i, a, h, _ => by simp at h
  | b :: r, 0, a, h, _ => by
    have e : b = a := by simpa using h
    subst e
    rfl
  | b :: r, i + 1, a, h, hm => by
    have hb : b = "seen" := by simpa using hm 0 (by omega)
    show (if b = "seen" then earlyB r else decide (b = "own")) = _
    rw [if_pos hb, early_skip r i a (by simpa using h) (fun m hm' => by simpa using hm (m + 1) (by omega))]
    rfl
theorem early_all : ∀ (r : List Str), (∀ m, m < r.length → r[m]? = some ("seen" : Str)) → earlyB r = false
  | [], _ => rfl
  | b :: r, hm => by
    have hb : b = "seen" := by simpa using hm 0 (by simp)
    show (if b = "seen" then earlyB r else decide (b = "own")) = false
    rw [if_pos hb]
    exact early_all r fun m h => by simpa using hm (m + 1) (by simpa using h)
theorem ok_lets {f : Addr} {fd : FuncData} (F : Fun K "_law_lets" "_law_lets" sLets f fd) : FnOk P w K mg base CX0 1 f fd ["_law_owning", "_law_shape"] (spLets K) := by
  refine F.ok scLets (fun vs H Q E h => ?_) (fun cdv A outer s H vs Q E hr h => ?_)
  · obtain ⟨o, p, r, rfl, _⟩ := h
    rfl
  · obtain ⟨o, p, r, rfl, hp, hne, q⟩ := h
    have hp : SqT K H p (r.map V.str) := hp
    refine ⟨_, pss_cons (ps_if (pt_cmpR op_eq (pv 0) pe_str (nomark _)) (pss_one (ps_ret pe_bl)) pss_nil) <|
      pss_cons (ps_if (pt_cmpR op_eq (pv 0) pe_str (nomark _)) (pss_one (ps_ret (pe_cmpR op_in_seq pe_str (pv 1) (by rfl)))) pss_nil) <|
      pss_cons (ps_if (pt_cmpR op_eq (pv 0) pe_str (nomark _)) (pss_one (ps_ret (pe_cmpR op_eq (pe_ix ix_tup (pv 1) pe_int (fun _ _ => rfl)) pe_str (nomark _)))) pss_nil) <|
      pss_cons (ps_for PassesOwn.never rfl (pi_tup (pv 1)) (pg_name (i := 2) scLets.nd rfl (Or.inl rfl)) (pss_one (ps_if (pt_cmpR op_ne (pv 2) pe_str (nomark _)) (pss_one (ps_ret (pe_cmpR op_eq (pv 2) pe_str (nomark _)))) pss_nil))) <|
      pss_one (ps_ret pe_bl), ?_⟩
    unfold letB at q
    refine ⟨_, rfl, rfl, _, rfl, ?_⟩
    rw [dec_str]
    by_cases h1 : o = "anybody"
    · rw [if_pos h1] at q
      rw [decide_eq_true h1]
      exact iteT q
    rw [if_neg h1] at q
    rw [decide_eq_false h1]
    refine iteF ⟨_, rfl, rfl, _, rfl, ?_⟩
    rw [dec_str]
    by_cases h2 : o = "any"
    · rw [if_pos h2] at q
      rw [decide_eq_true h2]
      refine iteT ⟨_, rfl, p, _, rfl, .inr hp, rfl, flat_strs _, ?_⟩
      rw [in_strs]
      exact q
    rw [if_neg h2] at q
    rw [decide_eq_false h2]
    refine iteF ⟨_, rfl, rfl, _, rfl, ?_⟩
    rw [dec_str]
    by_cases h3 : o = "first"
    · rw [if_pos h3] at q
      rw [decide_eq_true h3]
      cases r with
      | nil => exact absurd rfl hne
      | cons a r =>
        refine iteT ⟨_, rfl, p, _, (0 : Int), .str a, rfl, rfl, hp, atI_nat (j := 0) rfl, rfl, ?_⟩
        rw [dec_str]
        rw [show decide ((a :: r).head? = some ("own" : Str)) = decide (a = "own") by rw [decide_eq_decide]; simp] at q
        exact q
    rw [if_neg h3] at q
    rw [decide_eq_false h3]
    refine iteF ⟨_, rfl, p, rfl, ⟨_, hp⟩, for_it walk_tup (fun i σ H' => H' = H ∧ (∀ m, m < i → r[m]? = some ("seen" : Str)) ∧ ∃ v, σ = [some (.str o), some (.ref p), v]) ⟨rfl, fun m hm => absurd hm (Nat.not_lt_zero m), none, rfl⟩ (fun i σ H' _ h => by rw [h.1]; exact hp) ?_ ?_⟩
    · rintro i x σ H1 H2 hi ⟨rfl, hm, v, rfl⟩ ⟨rfl, hx⟩
      obtain ⟨a, ha, rfl⟩ : ∃ a, r[i]? = some a ∧ x = .str a := by
        rw [List.getElem?_map] at hx
        cases hp : r[i]? with
        | none => rw [hp] at hx; cases hx
        | some q0 => rw [hp] at hx; cases hx; exact ⟨q0, rfl, rfl⟩
      refine ⟨_, rfl, rfl, _, rfl, ?_⟩
      rw [dec_str]
      have e := early_skip r i a ha hm
      by_cases hs : a = "seen"
      · rw [decide_eq_true hs]
        refine iteF ⟨rfl, fun m hm' => ?_, _, rfl⟩
        by_cases hmi : m = i
        · rw [hmi, ha, hs]
        · exact hm m (by omega)
      · rw [decide_eq_false hs]
        rw [if_neg hs] at e
        refine iteT ⟨_, rfl, rfl, ?_⟩
        rw [dec_str, ← e]
        exact q
    · rintro σ H1 ⟨rfl, hm, v, rfl⟩
      rw [early_all r fun m h => hm m (by rw [List.length_map]; exact h)] at q
      exact q
end
end K1
namespace K1
open PySem PySem.Spec PyProof.Rows L2 Bk
theorem stepR_one {rs : List (List Str)} {i : Nat} {r : List Str} (e : rs[i]? = some r) : stepR (rs.take (i + 1)) = stepR (rs.take i) ++ shW.map fun w => r ++ [w] := stepR_take e
/-- longer rows of the law, the row r at hand: i rows are done, k words of it -/
def PvL (K : PySem.W.Frag) (H : Hp) (l m b : Addr) (ps qs : List Addr) (rs : List (List Str)) (D : Addr) (r : List Str) (rs2 : List (List Str)) (k : Nat) (H' : Hp) : Prop := Same H H' ∧ H' l = some (.lst (ps.map V.ref)) ∧ Lst2 (TQ K H') ps rs ∧ H' m = some (.lst (qs.map V.ref)) ∧ Lst2 (TQ K H') qs rs2 ∧ H' b = some (.lst (shW.map V.str)) ∧
  ∃ ts : List Addr, H' D = some (.lst (ts.map V.ref)) ∧ Lst2 (TQ K H') ts ((shW.take k).map fun w => r ++ [w])
theorem Lst2.tq {K : PySem.W.Frag} {H H' : Hp} {qs : List Addr} {rs : List (List Str)} (h : Lst2 (TQ K H) qs rs) (s : Same H H') : Lst2 (TQ K H') qs rs := h.imp fun _ _ t => sqT_same t s
theorem Lst2.tl {K : PySem.W.Frag} {H : Hp} {qs : List Addr} {rs : List (List Str)} {D : Addr} {xs ys : List V} (h : Lst2 (TQ K H) qs rs) (e : H D = some (.lst xs)) : Lst2 (TQ K (upd H D (.lst ys))) qs rs := h.imp fun _ _ t => sqT_lst t e
theorem str_at2 {ws : List Str} {j : Nat} {x : V} (h : (ws.map V.str)[j]? = some x) : ∃ a, ws[j]? = some a ∧ x = .str a := by
  rw [List.getElem?_map] at h
  cases hp : ws[j]? with
  | none => rw [hp] at h; cases h
  | some q => rw [hp] at h; cases h; exact ⟨q, rfl, rfl⟩
section
variable {P : Program} {w : World} {K : PySem.W.Frag} {mg : Str → Option Value} {base : Heap} {CB : Addr}
theorem ok_lShapes {f fL : Addr} {fd fdL : FuncData} (F : Fun K "_law_shapes" "_law_shapes" sLShapes f fd) (T : Tx mg) (mL : mg "_law_lets" = some (.ref fL)) (kL : PySem.W.keepIn K (.ref fL) = true) (bL : Binds K fdL ["_law_owning", "_law_shape"] []) (GL : FnOk P w K mg base CX0 1 fL fdL ["_law_owning", "_law_shape"] (spLets K)) :
    FnOk P w K mg base CX0 2 f fd ["_law_owning", "_law_places"] (spLShapes K) := by
  refine F.ok scLShapes (fun vs H Q E h => ?_) (fun cdv A outer s H vs Q E hr h => ?_)
  · obtain ⟨o, n, rfl, _⟩ := h
    rfl
  · obtain ⟨o, n, rfl, n1, n3, q⟩ := h
    refine ⟨_, pss_cons (ps_set (i := 2) scLShapes.nd rfl (Or.inl rfl) (pe_lst (pa_cons (pe_tup pa_nil) pa_nil))) <|
      pss_cons (ps_for PassesOwn.never rfl (pi_range1 (by rfl) T.range (pa_cons (pv 1) pa_nil)) (pg_name (i := 3) scLShapes.nd rfl (Or.inl rfl))
        (pss_cons (ps_set (i := 4) scLShapes.nd rfl (Or.inl rfl) (pe_lst pa_nil)) <|
        pss_cons (ps_for PassesOwn.never rfl (pi_list (pv 2)) (pg_name (i := 5) scLShapes.nd rfl (Or.inr rfl))
          (pss_one (ps_set (i := 4) scLShapes.nd rfl (Or.inl rfl) (pe_op op_cat (pv 4)
            (pe_lc (own := [("_law_word", 6)]) (g := gName 6) (tt := tYes) rfl scLShapes.nd (pi_list (pe_lst (pa_cons pe_str (pa_cons pe_str (pa_cons pe_str pa_nil))))) (blkOk_by (own := [("_law_word", 6)]) (N := ["_law_owning", "_law_places", "_law_rows", "_law_place", "_law_longer", "_law_row", "_law_word"]) (sc := defScope sLShapes) (by decide +kernel))
              (fun _ _ _ _ _ => pg_name (i := 6) scLShapes.nd rfl (Or.inl rfl)) (fun _ _ _ _ _ => pts_nil) (fun _ _ _ _ _ => pe_op (show OpR _ (binaryOp .Add) (rCatA K) from op_catA) (pv 5) (pe_tup (pa_cons (pv 6) pa_nil)))))))) <|
        pss_one (ps_set (i := 2) scLShapes.nd rfl (Or.inl rfl) (pv 4)))) <|
      pss_one (ps_ret (pe_lc (own := [("_law_row", 5)]) (g := gName 5) rfl scLShapes.nd (pi_list (pv 2)) (blkOk_by (own := [("_law_row", 5)]) (N := ["_law_owning", "_law_places", "_law_rows", "_law_place", "_law_longer", "_law_row", "_law_word"]) (sc := defScope sLShapes) (by decide +kernel)) (fun _ _ _ _ _ => pg_name (i := 5) scLShapes.nd rfl (Or.inl rfl))
        (fun _ _ _ _ _ => pts_one (pt_val (pe_call GL hr (by rfl) mL kL bL .nil pass0 (pa_cons (pv 0) (pa_cons (pv 5) pa_nil))))) (fun _ _ _ _ _ => pv 5))), ?_⟩
    refine ⟨by show 0 ≤ sizeLine; decide, fun t0 nt0 => ⟨by show 1 ≤ sizeLine; decide, fun l0 nl0 => ?_⟩⟩
    have s0 : Same H (upd (upd H t0 (.tup [])) l0 (.lst [V.ref t0])) := (same_new nt0).trans (same_new nl0)
    have hl0 : H l0 = none := none_of (same_new nt0) nl0
    have ht0 : (upd (upd H t0 (.tup [])) l0 (.lst [V.ref t0])) t0 = some (.tup []) := by
      rw [upd_ne (ne_of_none upd_same nl0)]
      exact upd_same
    refine ⟨_, rfl, (n : Int), rfl, by omega, by omega, for_range (n := n) (fun i σ H' => ∃ (l : Addr) (ps : List Addr) (v3 v4 v5 : Option V), σ = [some (.str o), some (.int n), some (.ref l), v3, v4, v5, none] ∧ H l = none ∧ Same H H' ∧ H' l = some (.lst (ps.map V.ref)) ∧ Lst2 (TQ K H') ps (allR i)) ⟨l0, [t0], none, none, none, rfl, hl0, s0, upd_same, Lst2.app (qs := []) (rs := []) Lst2.nil (SqT.of ht0)⟩ ?_ ?_⟩
    · rintro i σ H1 hi ⟨l, ps, v3, v4, v5, rfl, nl, s1, hl, hT⟩
      refine ⟨by show 0 ≤ sizeLine; decide, fun m0 nm0 => ?_⟩
      have hm0 : H m0 = none := none_of s1 nm0
      have hlm0 : l ≠ m0 := ne_of_none hl nm0
      refine ⟨_, rfl, l, rfl, ⟨ps.map V.ref, SqL.of (by rw [upd_ne hlm0]; exact hl)⟩, for_it (walk_list (xs := ps.map V.ref)) (fun j σ H' => ∃ (m : Addr) (qs : List Addr) (v5 : Option V), σ = [some (.str o), some (.int n), some (.ref l), some (.int (0 + i)), some (.ref m), v5, none] ∧ H m = none ∧ m ≠ l ∧ Same H H' ∧ H' l = some (.lst (ps.map V.ref)) ∧ Lst2 (TQ K H') ps (allR i) ∧ H' m = some (.lst (qs.map V.ref)) ∧ Lst2 (TQ K H') qs (stepR ((allR i).take j)))
        ⟨m0, [], v5, rfl, hm0, hlm0.symm, same_upd s1 hm0, by rw [upd_ne hlm0]; exact hl, hT.tq (same_new nm0), upd_same, by rw [List.take_zero]; exact Lst2.nil⟩ (fun j σ H' _ h => by obtain ⟨_, _, _, _, _, _, _, h, _⟩ := h; exact SqL.of h) ?_ ?_⟩
      · rintro j x σ H9 H2 hj ⟨m, qs, v5, rfl, nm, nml, s2, hl2, hT2, hm, hQ⟩ ⟨rfl, hx⟩
        obtain ⟨q0, hq0, rfl⟩ := ref_at hx
        obtain ⟨r, hr1, hr2⟩ := hT2.2 j q0 hq0
        refine ⟨_, rfl, by show 3 ≤ sizeLine; decide, fun b nb => ⟨b, rfl, ⟨shW.map V.str, SqL.of upd_same⟩, fun D nD => ?_⟩⟩
        have hb0 : H b = none := none_of s2 nb
        have sb : Same H2 (upd H2 b (.lst (shW.map V.str))) := same_new nb
        have nDb : D ≠ b := fun e => by
          rw [e] at nD
          have : (upd H2 b (.lst (shW.map V.str))) b = none := nD
          rw [upd_same] at this
          cases this
        have hD0 : H D = none := none_of (s2.trans sb) nD
        have sD := same_new (o := .lst []) nD
        have sbD := sb.trans sD
        refine lc_list (K := K) (a := b) (xs := shW.map V.str) (PvL K H l m b ps qs (allR i) D r (stepR ((allR i).take j))) ⟨s2.trans sbD, sbD _ _ hl2, hT2.tq sbD, sbD _ _ hm, hQ.tq sbD, sD _ _ upd_same, [], upd_same, by rw [List.take_zero]; exact Lst2.nil⟩ (fun k H' _ p => SqL.of p.2.2.2.2.2.1) ?_ ?_
        · rintro k y H4 hy ⟨s4, hl4, hT4, hm4, hQ4, hb4, ts, hD4, hts⟩
          obtain ⟨wk, hwk, rfl⟩ := str_at2 hy
          have hr4 : SqT K H4 q0 (r.map V.str) := by
            obtain ⟨r', e1, e2⟩ := hT4.2 j q0 hq0
            rw [hr1] at e1
            cases e1
            exact e2
          have hlen := (allR_mem i r (List.mem_of_getElem? hr1)).1
          refine ⟨rfl, ?_⟩
          unfold tYes
          refine iteT ?_
          refine ⟨_, rfl, _, rfl, by show 1 ≤ sizeLine; decide, fun t nt => ?_⟩
          have st : Same H4 (upd H4 t (.tup [V.str wk])) := same_new nt
          have nt0' : H t = none := none_of s4 nt
          -- what is left behind the new tuple
          have fin : ∀ (p : Addr) (H5 : Hp), Same H4 H5 → SqT K H5 p ((r ++ [wk]).map V.str) → ∃ acc, H5 D = some (.lst acc) ∧ acc.length < sizeLine ∧ PvL K H l m b ps qs (allR i) D r (stepR ((allR i).take j)) (k + 1) (upd H5 D (.lst (acc ++ [V.ref p]))) := by
            intro p H5 s5 hp5
            have hD5 := s5 _ _ hD4
            have hlD : l ≠ D := fun e => by
              rw [e] at hl2
              rw [upd_ne nDb] at nD
              rw [nD] at hl2
              cases hl2
            have hmD : m ≠ D := fun e => by
              rw [e] at hm
              rw [upd_ne nDb] at nD
              rw [nD] at hm
              cases hm
            refine ⟨ts.map V.ref, hD5, ?_, same_upd (s4.trans s5) hD0, by rw [upd_ne hlD]; exact s5 _ _ hl4, (hT4.tq s5).tl hD5, by rw [upd_ne hmD]; exact s5 _ _ hm4, (hQ4.tq s5).tl hD5, by rw [upd_ne nDb.symm]; exact s5 _ _ hb4, ts ++ [p], by rw [upd_same, List.map_append]; rfl, ?_⟩
            · rw [List.length_map, hts.1, List.length_map, List.length_take]
              have : min k shW.length ≤ 3 := Nat.min_le_right _ _
              exact small1000 (by omega)
            · rw [List.take_add_one, hwk, Option.toList_some, List.map_append]
              exact ((hts.tq s5).app (show TQ K H5 p (r ++ [wk]) from hp5)).tl hD5
          refine ⟨q0, t, _, _, rfl, rfl, sqT_same hr4 st, SqT.of upd_same, ?_, fun e => ?_, fun _ e => (by cases e), fun hne _ p np => ?_⟩
          · rw [List.length_map, hlen]
            exact Nat.le_trans (show i + 1 ≤ 1000 by omega) (by decide)
          · have er : r = [] := by simpa using e
            refine fin t _ st ?_
            rw [er]
            exact SqT.of upd_same
          · refine fin p _ (st.trans (same_new np)) ?_
            rw [List.map_append]
            exact SqT.of upd_same
        · rintro H4 ⟨s4, hl4, hT4, hm4, hQ4, hb4, ts, hD4, hts⟩
          have e3 : shW.take (shW.map V.str).length = shW := List.take_of_length_le (by rw [List.length_map]; exact Nat.le_refl _)
          rw [e3] at hts
          refine ⟨m, D, _, _, rfl, rfl, hm4, hD4, ?_, fun p np => ?_⟩
          · rw [List.length_map, List.length_map, hQ4.1, hts.1, List.length_map]
            have h1 := stepR_take_len (allR i) j
            have h2 := allR_small (n := i) (by omega)
            exact Nat.le_trans (show _ ≤ 1000 by show _ + 3 ≤ 1000; omega) (by decide)
          · have np0 : H p = none := none_of s4 np
            have sp4 := same_new (o := .lst (qs.map V.ref ++ ts.map V.ref)) np
            refine ⟨p, qs ++ ts, some (.ref q0), rfl, np0, (ne_of_none hl4 np).symm, s4.trans sp4, sp4 _ _ hl4, hT4.tq sp4, by rw [upd_same, List.map_append], ?_⟩
            rw [stepR_one hr1]
            exact ((hQ4.tq sp4)).cat (hts.tq sp4)
      · rintro σ H2 ⟨m, qs, v5, rfl, nm, nml, s2, hl2, hT2, hm, hQ⟩
        have : (allR i).take (ps.map V.ref).length = allR i := List.take_of_length_le (by rw [List.length_map, hT.1]; exact Nat.le_refl _)
        rw [this] at hQ
        exact ⟨_, rfl, m, qs, _, _, _, rfl, nm, s2, hm, hQ⟩
    · rintro σ H1 ⟨l, ps, v3, v4, v5, rfl, nl, s1, hl, hT⟩
      refine ⟨_, rfl, l, rfl, ⟨_, SqL.of hl⟩, fun D nD => ?_⟩
      have nD0 : H D = none := none_of s1 nD
      have hnl : l ≠ D := ne_of_none hl nD
      refine lc_list (K := K) (a := l) (xs := ps.map V.ref) (fun j H' => Same H H' ∧ H' l = some (.lst (ps.map V.ref)) ∧ Lst2 (TQ K H') ps (allR n) ∧ ∃ qs : List Addr, H' D = some (.lst (qs.map V.ref)) ∧ Lst2 (TQ K H') qs (((allR n).take j).filter (letB o))) ⟨same_upd s1 nD0, by rw [upd_ne hnl]; exact hl, hT.tq (same_new nD), [], upd_same, by rw [List.take_zero]; exact Lst2.nil⟩ (fun j H' _ p => SqL.of p.2.1) ?_ ?_
      · rintro j x H2 hx ⟨s2, hl2, hT2, qs, hD, hQ⟩
        obtain ⟨q0, hq0, rfl⟩ := ref_at hx
        obtain ⟨r, hr1, hr2⟩ := hT2.2 j q0 hq0
        have hmem := allR_mem n r (List.mem_of_getElem? hr1)
        refine ⟨rfl, ?_⟩
        refine ⟨_, rfl, _, rfl, o, q0, r, rfl, hr2, ?_, _, rfl, ?_⟩
        · intro e
          rw [e] at hmem
          have := hmem.1
          simp at this
          omega
        by_cases hc : letB o r = true
        · rw [hc]
          refine iteT ⟨_, rfl, qs.map V.ref, hD, ?_, ?_, ?_, ?_, qs ++ [q0], ?_, ?_⟩
          · rw [List.length_map, hQ.1]
            have h1 : (((allR n).take j).filter (letB o)).length ≤ (allR n).length := Nat.le_trans (List.length_filter_le _ _) (by rw [List.length_take]; exact Nat.min_le_right _ _)
            have h2 := allR_small (n := n) n3
            exact small1000 (by omega)
          · exact same_upd s2 nD0
          · rw [upd_ne hnl]
            exact hl2
          · exact hT2.tl hD
          · rw [upd_same, List.map_append]
            rfl
          · rw [filter_take hr1, if_pos hc]
            exact (hQ.app hr2).tl hD
        · have hc' : letB o r = false := by simpa using hc
          rw [hc']
          refine iteF ⟨s2, hl2, hT2, qs, hD, ?_⟩
          rw [filter_take hr1, if_neg hc, List.append_nil]
          exact hQ
      · rintro H2 ⟨s2, hl2, hT2, qs, hD, hQ⟩
        have : (allR n).take (ps.map V.ref).length = allR n := List.take_of_length_le (by rw [List.length_map, hT.1]; exact Nat.le_refl _)
        rw [this] at hQ
        exact q D qs H2 nD0 s2 hD hQ
end
end K1
namespace K1
open PySem PySem.Spec PyProof.Rows L2 Bk
theorem scLReason : FnScope ["_law_words"] ["_law_words"] (defScope sLReason) := ⟨rfl, rfl, rfl, by decide +kernel, rfl, by decide +kernel, by decide +kernel⟩
theorem scAskS : FnScope ["_law_book", "_law_places", "e"] ["_law_book", "_law_places"] (defScope sAskS) := ⟨rfl, rfl, rfl, by decide +kernel, rfl, by decide +kernel, by decide +kernel⟩
theorem scAskR : FnScope ["_law_book", "e"] ["_law_book"] (defScope sAskR) := ⟨rfl, rfl, rfl, by decide +kernel, rfl, by decide +kernel, by decide +kernel⟩
/-- the words of books can be laid -/
theorem word_ok {z : Str} (h : z ∈ oW ∨ z ∈ lW ∨ z ∈ cW ∨ z ∈ nW ∨ z ∈ eW ∨ z ∈ shW) : PyData.canLay0 (.str z) = true := by
  have e : (oW ++ lW ++ cW ++ nW ++ eW ++ shW).all (fun z => PyData.canLay0 (.str z)) = true := by decide +kernel
  rw [List.all_eq_true] at e
  apply e
  simp only [List.mem_append]
  rcases h with h | h | h | h | h | h <;> simp [h]
theorem eqv_s (a b : Str) : PyData.eqv (.str a) (.str b) = decide (a = b) := by
  rw [PyData.eqv]
  by_cases h : a = b
  · rw [h]
    simp
  · rw [decide_eq_false h]
    simpa using h
theorem eqv_two (a b c d : Str) : PyData.eqv (.list [.str a, .str b]) (.list [.str c, .str d]) = (decide (a = c) && decide (b = d)) := by
  rw [PyData.eqv, PyData.eqvAll, PyData.eqvAll, PyData.eqvAll, eqv_s, eqv_s, Bool.and_true]
theorem lay_two {a b : Str} (ha : PyData.canLay0 (.str a) = true) (hb : PyData.canLay0 (.str b) = true) : SeqAt.shaped (.list [.str a, .str b]) = true := by
  unfold SeqAt.shaped
  rw [PyData.canLay0, PyData.canLayAll0, PyData.canLayAll0, PyData.canLayAll0, ha, hb, PyData.depth, PyData.depthAll, PyData.depthAll, PyData.depthAll, PyData.depth, PyData.depth]
  decide
theorem cut13 (a b c d e : V) : cutV [a, b, c, d, e] (some 1) (some 3) = [b, c] := by
  unfold cutV
  rw [show HT.sIx [a, b, c, d, e].length 0 (some 1) = 1 from HT.sIx_nat _ 0 1, show HT.sIx [a, b, c, d, e].length [a, b, c, d, e].length (some 3) = 3 from HT.sIx_nat _ _ 3]
  rfl
def spLReason (K : PySem.W.Frag) : Sp := fun vs H Q _ => ∃ (l : Addr) (wd : Wds), vs = [.ref l] ∧ SqL K H l (wd.list.map V.str) ∧ wd.Ok ∧ ∀ H', Same H H' → Q (optV (reasonW wd)) H'
def spAskS (K : PySem.W.Frag) (CB : Addr) : Sp := fun vs H Q _ => ∃ x y, vs = [x, y] ∧ ((NotB K CB H x ∧ ∀ (r : Addr) (H' : Hp), H r = none → Same H H' → H' r = some (.lst [.str "book", .non]) → Q (.ref r) H') ∨
  ∃ (a : Addr) (wd : Wds), x = .ref a ∧ BookAt CB H a wd ∧ NotP K H y ∧ ∀ (r : Addr) (H' : Hp), H r = none → Same H H' → H' r = some (.lst [.str "places", y]) → Q (.ref r) H')
def spAskR (K : PySem.W.Frag) (CB : Addr) : Sp := fun vs H Q _ => ∃ x, vs = [x] ∧ ((NotB K CB H x ∧ ∀ (r : Addr) (H' : Hp), H r = none → Same H H' → H' r = some (.lst [.str "book", .non]) → Q (.ref r) H') ∨
  ∃ (a : Addr) (wd : Wds), x = .ref a ∧ BookAt CB H a wd ∧ ∀ (r : Addr) (H' : Hp), H r = none → Same H H' → H' r = some (.lst [.str "reason", optV (reasonW wd)]) → Q (.ref r) H')
section
variable {P : Program} {w : World} {K : PySem.W.Frag} {mg : Str → Option Value} {base : Heap} {CB CE CP fE fP : Addr}
theorem ok_lReason {f : Addr} {fd : FuncData} (F : Fun K "_law_reason" "_law_reason" sLReason f fd) : FnOk P w K mg base CX0 1 f fd ["_law_words"] (spLReason K) := by
  refine F.ok scLReason (fun vs H Q E h => ?_) (fun cdv A outer s H vs Q E hr h => ?_)
  · obtain ⟨l, wd, rfl, _⟩ := h
    rfl
  · obtain ⟨l, wd, rfl, hS, hok, q⟩ := h
    refine ⟨_, pss_cons (ps_if (PW.pt (pw_and (pt_cmpR op_eq (pe_ix ix_list (pv 0) pe_int (fun _ _ => rfl)) pe_str (nomark _)) (pw_and1 (pt_cmpR op_ne (pe_ix ix_list (pv 0) pe_int (fun _ _ => rfl)) pe_str (nomark _))))) (pss_one (ps_ret pe_str)) pss_nil) <|
      pss_cons (ps_if (PW.pt (pw_and (pt_cmpR op_eq (pe_ix ix_list (pv 0) pe_int (fun _ _ => rfl)) pe_str (nomark _)) (pw_and1 (pt_cmpR op_ne (pe_ix ix_list (pv 0) pe_int (fun _ _ => rfl)) pe_str (nomark _))))) (pss_one (ps_ret pe_str)) pss_nil) <|
      pss_one (ps_ret (pe_ifExp (PW.pt (pw_and (pt_cmpR (op_eqD hr.units) (pe_slice sl_list (pv 0) (po_some pe_int) (po_some pe_int)) (pe_lst (pa_cons pe_str (pa_cons pe_str pa_nil))) (nomark _)) (pw_and1 (pt_cmpR op_eq (pe_ix ix_list (pv 0) pe_int (fun _ _ => rfl)) pe_str (nomark _))))) pe_str pe_non)), ?_⟩
    have q0 := q H (Same.refl H)
    unfold reasonW at q0 q
    have lok : PyData.canLay0 (.str wd.l) = true := word_ok (.inr (.inl hok.2.1))
    have cok : PyData.canLay0 (.str wd.c) = true := word_ok (.inr (.inr (.inl hok.2.2.1)))
    by_cases h1 : wd.l = "apart"
    · have n1 : ¬ wd.l = "ladder" := by
        rw [h1]
        decide +kernel
      rw [if_neg fun z => n1 z.1, if_neg fun z => z h1] at q0 q
      refine ⟨_, rfl, l, _, 1, _, rfl, rfl, hS, atI_nat (j := 1) rfl, rfl, _, rfl, ?_⟩
      rw [dec_str, decide_eq_true h1]
      refine iteT ⟨_, rfl, l, _, 2, _, rfl, rfl, hS, atI_nat (j := 2) rfl, rfl, _, rfl, ?_⟩
      rw [dec_str]
      by_cases h2 : wd.c = "first"
      · rw [if_neg fun z => z h2] at q0 q
        rw [decide_eq_true h2]
        refine iteF ⟨_, rfl, l, _, 1, _, rfl, rfl, hS, atI_nat (j := 1) rfl, rfl, _, rfl, ?_⟩
        rw [dec_str, decide_eq_true h1]
        refine iteT ⟨_, rfl, l, _, 4, _, rfl, rfl, hS, atI_nat (j := 4) rfl, rfl, _, rfl, ?_⟩
        rw [dec_str]
        by_cases h3 : wd.e = "once"
        · rw [if_pos h3] at q0 q
          rw [decide_eq_true h3]
          refine iteF ?_
          refine ⟨_, rfl, 1, rfl, 3, rfl, l, _, rfl, hS, fun p np => ?_⟩
          refine ⟨by show 2 ≤ sizeLine; decide, fun p2 np2 => ?_⟩
          have sA := (same_new (o := .lst (cutV (wd.list.map V.str) (some 1) (some 3))) np).trans (same_new (o := .lst [.str "ladder", .str "special"]) np2)
          refine ⟨.list [.str wd.l, .str wd.c], .list [.str "ladder", .str "special"], .lst (SqL.of (xs := [.str wd.l, .str wd.c]) ?_) (.cons (.str _) (.cons (.str _) .nil)), .lst (SqL.of upd_same) (.cons (.str _) (.cons (.str _) .nil)), lay_two lok cok, by decide +kernel, _, rfl, ?_⟩
          · rw [upd_ne (ne_of_none upd_same np2), upd_same]
            exact congrArg (fun z => some (HO.lst z)) (cut13 _ _ _ _ _)
          rw [eqv_two, decide_eq_false n1, Bool.false_and]
          exact iteF (q _ sA)
        · rw [if_neg h3] at q0
          rw [decide_eq_false h3]
          exact iteT q0
      · rw [if_pos h2] at q0
        rw [decide_eq_false h2]
        exact iteT q0
    · refine ⟨_, rfl, l, _, 1, _, rfl, rfl, hS, atI_nat (j := 1) rfl, rfl, _, rfl, ?_⟩
      rw [dec_str, decide_eq_false h1]
      refine iteF ⟨_, rfl, l, _, 1, _, rfl, rfl, hS, atI_nat (j := 1) rfl, rfl, _, rfl, ?_⟩
      rw [dec_str, decide_eq_false h1]
      refine iteF ?_
      refine ⟨_, rfl, 1, rfl, 3, rfl, l, _, rfl, hS, fun p np => ?_⟩
      refine ⟨by show 2 ≤ sizeLine; decide, fun p2 np2 => ?_⟩
      have sA := (same_new (o := .lst (cutV (wd.list.map V.str) (some 1) (some 3))) np).trans (same_new (o := .lst [.str "ladder", .str "special"]) np2)
      refine ⟨.list [.str wd.l, .str wd.c], .list [.str "ladder", .str "special"], .lst (SqL.of (xs := [.str wd.l, .str wd.c]) ?_) (.cons (.str _) (.cons (.str _) .nil)), .lst (SqL.of upd_same) (.cons (.str _) (.cons (.str _) .nil)), lay_two lok cok, by decide +kernel, _, rfl, ?_⟩
      · rw [upd_ne (ne_of_none upd_same np2), upd_same]
        exact congrArg (fun z => some (HO.lst z)) (cut13 _ _ _ _ _)
      rw [eqv_two]
      by_cases h2 : wd.l = "ladder" ∧ wd.c = "special"
      · rw [decide_eq_true h2.1, decide_eq_true h2.2, Bool.true_and]
        refine iteT ⟨_, rfl, l, _, 4, _, rfl, rfl, seq_same sA hS, atI_nat (j := 4) rfl, rfl, _, rfl, ?_⟩
        rw [dec_str]
        by_cases h3 : wd.e = "refused"
        · rw [if_pos ⟨h2.1, h2.2, h3⟩] at q
          rw [decide_eq_true h3]
          exact iteT (q _ sA)
        · rw [if_neg fun z => h3 z.2.2, if_pos h1] at q
          rw [decide_eq_false h3]
          exact iteF (q _ sA)
      · rw [if_neg fun z => h2 ⟨z.1, z.2.1⟩, if_pos h1] at q
        have e : (decide (wd.l = "ladder") && decide (wd.c = "special")) = false := by
          cases hd : decide (wd.l = "ladder") with
          | false => rfl
          | true =>
            rw [Bool.true_and]
            exact decide_eq_false fun z => h2 ⟨of_decide_eq_true hd, z⟩
        rw [e]
        exact iteF (q _ sA)
theorem ok_askS {f fS : Addr} {fd fdS : FuncData} (F : Fun K "_law_asked_shapes" "_law_asked_shapes" sAskS f fd) (W : EF K mg CE fE "InvalidBook" "part") (WP : EF K mg CP fP "InvalidPlaces" "value") (XF : XfC K CE) (XP : XfC K CP) (tE : PySem.W.exmOne K (.ref CE) (.ref CE) = some true) (tP : PySem.W.exmOne K (.ref CP) (.ref CP) = some true) (tPE : PySem.W.exmOne K (.ref CP) (.ref CE) = some false)
    (mS : mg "shapes" = some (.ref fS)) (kS : PySem.W.keepIn K (.ref fS) = true) (bS : Binds K fdS ["book", "places"] []) (GS : FnOk P w K mg base (CX P w) 4 fS fdS ["book", "places"] (spShapes K CB CE CP)) :
    FnOk P w K mg base CX0 5 f fd ["_law_book", "_law_places"] (spAskS K CB) := by
  refine F.ok scAskS (fun vs H Q E h => ?_) (fun cdv A outer s H vs Q E hr h => ?_)
  · obtain ⟨x, y, rfl, _⟩ := h
    rfl
  · obtain ⟨x, y, rfl, h⟩ := h
    refine ⟨_, pss_one (ps_try_manyA rfl rfl scAskS.nd takes0
      (fun W' pn xe tk _ => pss_one (ps_ret (pe_lst (pa_cons pe_str (pa_cons (pe_callS GS hr (by rfl) mS kS bS (fun σ => passAt tk σ) (pa_cons (pv 0) (pa_cons (pv 1) pa_nil))) pa_nil)))))
      (.cons (i := 2) rfl rfl ⟨rfl, by decide, .inl W.gE⟩ (fun a oe cls d pn hz hf => pss_one (ps_ret (pe_lst (pa_cons pe_str (pa_cons (pe_xf XF W.noV hz hf (pv 2)) pa_nil)))))
        (.cons (i := 2) rfl rfl ⟨rfl, by decide, .inl WP.gE⟩ (fun a oe cls d pn hz hf => pss_one (ps_ret (pe_lst (pa_cons pe_str (pa_cons (pe_xf XP WP.noV hz hf (pv 2)) pa_nil))))) .nil))), ?_⟩
    rcases h with ⟨hn, q⟩ | ⟨a, wd, rfl, hb, hn, q⟩
    · refine ⟨_, rfl, _, rfl, x, y, rfl, .inr (.inl ⟨hn, fun dd H' nd sm hdd => ?_⟩)⟩
      refine ⟨true, tE, fun _ a na => ?_, fun z => nomatch z⟩
      refine ⟨_, rfl, rfl, rfl, dd, _, .non, rfl, hdd, rfl, by show 2 ≤ sizeLine; decide, fun r nr => ?_⟩
      exact q r _ (none_of sm nr) (sm.trans (same_new nr)) upd_same
    · refine ⟨_, rfl, _, rfl, _, y, rfl, .inr (.inr ⟨a, wd, rfl, hb, hn, fun dd H' nd sm hdd => ?_⟩)⟩
      refine ⟨false, tPE, (fun z => nomatch z), fun _ => ⟨true, tP, fun _ a na => ?_, fun z => nomatch z⟩⟩
      refine ⟨_, rfl, rfl, rfl, dd, _, y, rfl, hdd, rfl, by show 2 ≤ sizeLine; decide, fun r nr => ?_⟩
      exact q r _ (none_of sm nr) (sm.trans (same_new nr)) upd_same
theorem ok_askR {f fR : Addr} {fd fdR : FuncData} (F : Fun K "_law_asked_reason" "_law_asked_reason" sAskR f fd) (W : EF K mg CE fE "InvalidBook" "part") (XF : XfC K CE) (tE : PySem.W.exmOne K (.ref CE) (.ref CE) = some true)
    (mR : mg "reason_of" = some (.ref fR)) (kR : PySem.W.keepIn K (.ref fR) = true) (bR : Binds K fdR ["book"] []) (GR : FnOk P w K mg base (CX P w) 4 fR fdR ["book"] (spReasonOf K CB CE)) :
    FnOk P w K mg base CX0 5 f fd ["_law_book"] (spAskR K CB) := by
  refine F.ok scAskR (fun vs H Q E h => ?_) (fun cdv A outer s H vs Q E hr h => ?_)
  · obtain ⟨x, rfl, _⟩ := h
    rfl
  · obtain ⟨x, rfl, h⟩ := h
    refine ⟨_, pss_one (ps_try_manyA rfl rfl scAskR.nd takes0
      (fun W' pn xe tk _ => pss_one (ps_ret (pe_lst (pa_cons pe_str (pa_cons (pe_callS GR hr (by rfl) mR kR bR (fun σ => passAt tk σ) (pa_cons (pv 0) pa_nil)) pa_nil)))))
      (.cons (i := 1) rfl rfl ⟨rfl, by decide, .inl W.gE⟩ (fun a oe cls d pn hz hf => pss_one (ps_ret (pe_lst (pa_cons pe_str (pa_cons (pe_xf XF W.noV hz hf (pv 1)) pa_nil))))) .nil)), ?_⟩
    rcases h with ⟨hn, q⟩ | ⟨a, wd, rfl, hb, q⟩
    · refine ⟨_, rfl, x, rfl, .inr ⟨hn, fun dd H' nd sm hdd => ?_⟩⟩
      refine ⟨true, tE, fun _ a na => ?_, fun z => nomatch z⟩
      refine ⟨_, rfl, rfl, rfl, dd, _, .non, rfl, hdd, rfl, by show 2 ≤ sizeLine; decide, fun r nr => ?_⟩
      exact q r _ (none_of sm nr) (sm.trans (same_new nr)) upd_same
    · refine ⟨_, rfl, _, rfl, .inl ⟨a, wd, rfl, hb, ?_⟩⟩
      exact ⟨by show 2 ≤ sizeLine; decide, fun r nr => q r _ nr (same_new nr) upd_same⟩
end
end K1
namespace K1
open PySem PySem.Spec PyProof.Rows L2 Bk
theorem scLaw : FnScope ["_law_script", "_law_cell", "_law_pool", "_law_words", "_law_book", "_law_places", "_law_due", "_law_found", "_law_row", "_law_odd", "_law_wrong"] ["_law_script"] (defScope sLaw) := ⟨rfl, rfl, rfl, by decide +kernel, rfl, by decide +kernel, by decide +kernel⟩
def rowD (r : List Str) : PyData := .tuple (r.map PyData.str)
def rowsD (rs : List (List Str)) : PyData := .list (rs.map rowD)
theorem dp_strs {K : PySem.W.Frag} {H : Hp} : ∀ r : List Str, DpAll K H (r.map V.str) (r.map PyData.str)
  | [] => .nil
  | a :: r => .cons (.str a) (dp_strs r)
theorem dp_rows {K : PySem.W.Frag} {H : Hp} : ∀ (qs : List Addr) (rs : List (List Str)), Lst2 (TQ K H) qs rs → DpAll K H (qs.map V.ref) (rs.map rowD)
  | [], [], _ => .nil
  | [], _ :: _, h => by
    have := h.1
    simp at this
  | _ :: _, [], h => by
    have := h.1
    simp at this
  | q :: qs, r :: rs, h => by
    obtain ⟨r2, h1, h2⟩ := h.2 0 q rfl
    cases h1
    exact .cons (.tup h2 (dp_strs r)) (dp_rows qs rs ⟨by simpa using h.1, fun i b hb => h.2 (i + 1) b hb⟩)
theorem lay_strs : ∀ r : List Str, (∀ w ∈ r, PyData.canLay0 (.str w) = true) → PyData.canLayAll0 (r.map PyData.str) = true
  | [], _ => rfl
  | a :: r, h => by
    rw [List.map_cons, PyData.canLayAll0, h a List.mem_cons_self, lay_strs r fun w hw => h w (List.mem_cons_of_mem _ hw)]
    rfl
theorem dep_strs : ∀ r : List Str, PyData.depthAll (r.map PyData.str) = 0
  | [] => by rw [List.map_nil, PyData.depthAll]
  | a :: r => by
    rw [List.map_cons, PyData.depthAll, dep_strs r, PyData.depth]
    rfl
theorem lay_rows : ∀ rs : List (List Str), (∀ r ∈ rs, ∀ w ∈ r, PyData.canLay0 (.str w) = true) → PyData.canLayAll0 (rs.map rowD) = true
  | [], _ => rfl
  | r :: rs, h => by
    rw [List.map_cons, PyData.canLayAll0, lay_rows rs fun x hx => h x (List.mem_cons_of_mem _ hx), Bool.and_true]
    unfold rowD
    rw [PyData.canLay0]
    exact lay_strs r (h r List.mem_cons_self)
theorem dep_rows : ∀ rs : List (List Str), PyData.depthAll (rs.map rowD) ≤ 1
  | [] => by
    rw [List.map_nil, PyData.depthAll]
    exact Nat.zero_le _
  | r :: rs => by
    have := dep_rows rs
    rw [List.map_cons, PyData.depthAll]
    have e : PyData.depth (rowD r) = 1 := by
      unfold rowD
      rw [PyData.depth, dep_strs]
    rw [e]
    omega
theorem shaped_rows {rs : List (List Str)} (h : ∀ r ∈ rs, ∀ w ∈ r, PyData.canLay0 (.str w) = true) : SeqAt.shaped (rowsD rs) = true := by
  unfold SeqAt.shaped rowsD
  rw [PyData.canLay0, lay_rows rs h, Bool.true_and, PyData.depth]
  have := dep_rows rs
  exact decide_eq_true (by omega)
theorem shapes_lay (o : Str) (n : Nat) : SeqAt.shaped (rowsD (shapesL o n)) = true := shaped_rows fun r hr w hw => by
  unfold shapesL at hr
  exact word_ok (.inr (.inr (.inr (.inr (.inr ((allR_mem n r (List.mem_filter.mp hr).1).2 w hw))))))
theorem eqv_self {d : PyData} (h : SeqAt.shaped d = true) : PyData.eqv d d = true := SeqAt.eqv_refl _ (by
  unfold SeqAt.shaped at h
  rw [Bool.and_eq_true] at h
  exact h.1)
theorem sqT_keep {K : PySem.W.Frag} {p q : Addr} {H H' : Hp} {xs : List V} (k : KeepP p H H') (hp : Pool H p) (h : SqT K H q xs) : SqT K H' q xs := by
  obtain ⟨_, _, e, _⟩ := hp
  rcases h with (h | ⟨o, h⟩) | h
  · exact .inl (.inl (k _ _ (fun z => by rw [z, e] at h; cases h) h))
  · exact .inl (.inr ⟨o, k _ _ (fun z => by rw [z, e] at h; cases h) h⟩)
  · exact .inr h
theorem BookAt.keep {CB p : Addr} {H H' : Hp} {x : Addr} {wd : Wds} (h : BookAt CB H x wd) (k : KeepP p H H') (hp : Pool H p) : BookAt CB H' x wd := by
  obtain ⟨_, _, e, _⟩ := hp
  obtain ⟨dx, d, a, b⟩ := h
  exact ⟨dx, d, k _ _ (fun z => by rw [z, e] at a; cases a) a, k _ _ (fun z => by rw [z, e] at b; cases b) b⟩
/-- what the law's turn holds -/
structure Hold (K : PySem.W.Frag) (CB p l b : Addr) (wd : Wds) (u : Addr) (ps : List Addr) (rs : List (List Str)) (H : Hp) : Prop where
  po : Pool H p
  wo : H l = some (.lst (wd.list.map V.str))
  bo : BookAt CB H b wd
  du : H u = some (.lst (ps.map V.ref))
  ro : Lst2 (TQ K H) ps rs
  lp : l ≠ p
  up : u ≠ p
section
variable {K : PySem.W.Frag} {CB p l b u : Addr} {wd : Wds} {ps : List Addr} {rs : List (List Str)} {H H' : Hp}
theorem Hold.same (h : Hold K CB p l b wd u ps rs H) (s : Same H H') : Hold K CB p l b wd u ps rs H' := ⟨h.po.same s, s _ _ h.wo, h.bo.same s, s _ _ h.du, h.ro.tq s, h.lp, h.up⟩
theorem Hold.keep (h : Hold K CB p l b wd u ps rs H) (k : KeepP p H H') (hp : Pool H' p) : Hold K CB p l b wd u ps rs H' :=
  ⟨hp, k _ _ h.lp h.wo, h.bo.keep k h.po, k _ _ h.up h.du, h.ro.imp fun _ _ t => sqT_keep k h.po t, h.lp, h.up⟩
theorem Hold.lst {D : Addr} {xs ys : List V} (h : Hold K CB p l b wd u ps rs H) (e : H D = some (.lst xs)) (n1 : p ≠ D) (n2 : l ≠ D) (n3 : u ≠ D) : Hold K CB p l b wd u ps rs (upd H D (.lst ys)) := by
  refine ⟨?_, ?_, ?_, ?_, h.ro.tl e, h.lp, h.up⟩
  · obtain ⟨g, s, e1, r⟩ := h.po
    exact ⟨g, s, by rw [upd_ne n1]; exact e1, r⟩
  · rw [upd_ne n2]
    exact h.wo
  · obtain ⟨dx, d, a, c⟩ := h.bo
    refine ⟨dx, d, ?_, ?_⟩
    · rw [upd_ne (fun z => by rw [z, e] at a; cases a)]
      exact a
    · rw [upd_ne (fun z => by rw [z, e] at c; cases c)]
      exact c
  · rw [upd_ne n3]
    exact h.du
end
theorem same_keep {H0 H H' : Hp} {p : Addr} (s : Same H0 H) (np : H0 p = none) (k : KeepP p H H') : Same H0 H' := fun b o e => k b o (ne_of_none e np) (s b o e)
/-- no number of places, whatever becomes of the pool -/
def OddV (K : PySem.W.Frag) (p : Addr) (H : Hp) (x : V) : Prop := ∀ H', KeepP p H H' → NotP K H' x ∧ ∃ d, Dp K H' x d ∧ SeqAt.shaped (.list [.str "places", d]) = true
def WrongV (K : PySem.W.Frag) (CB p : Addr) (H : Hp) (x : V) : Prop := ∀ H', KeepP p H H' → NotB K CB H' x
theorem OddV.keep {K : PySem.W.Frag} {p : Addr} {H H' : Hp} {x : V} (h : OddV K p H x) (k : KeepP p H H') : OddV K p H' x := fun H2 k2 => h H2 (k.trans k2)
theorem WrongV.keep {K : PySem.W.Frag} {CB p : Addr} {H H' : Hp} {x : V} (h : WrongV K CB p H x) (k : KeepP p H H') : WrongV K CB p H' x := fun H2 k2 => h H2 (k.trans k2)
/-- what kinds of values are no books -/
structure KB (K : PySem.W.Frag) (CB : Addr) : Prop where
  non : PySem.W.kitOne K (.type "NoneType") (.ref CB) = some false
  bl : PySem.W.kitOne K (.type "bool") (.ref CB) = some false
  int : PySem.W.kitOne K (.type "int") (.ref CB) = some false
  str : PySem.W.kitOne K (.type "str") (.ref CB) = some false
  lst : PySem.W.kitOne K (.type "list") (.ref CB) = some false
  tup : PySem.W.kitOne K (.type "tuple") (.ref CB) = some false
def oddL (l1 l : Addr) : List V := [.non, .bl true, .int 0, .int 4, .int (-1), .str "2", .ref l1, .int (10 ^ 20), .str "early", .ref l]
theorem words_lay {wd : Wds} (h : wd.Ok) : PyData.canLayAll0 (wd.list.map PyData.str) = true := lay_strs _ fun w hw => by
  obtain ⟨h1, h2, h3, h4, h5⟩ := h
  unfold Wds.list at hw
  simp only [List.mem_cons, List.not_mem_nil, or_false] at hw
  rcases hw with rfl | rfl | rfl | rfl | rfl
  · exact word_ok (.inl h1)
  · exact word_ok (.inr (.inl h2))
  · exact word_ok (.inr (.inr (.inl h3)))
  · exact word_ok (.inr (.inr (.inr (.inl h4))))
  · exact word_ok (.inr (.inr (.inr (.inr (.inl h5)))))
theorem odd_all {K : PySem.W.Frag} {p l1 l : Addr} {H : Hp} {wd : Wds} (h1 : H l1 = some (.lst [.int 1])) (n1 : l1 ≠ p) (hl : H l = some (.lst (wd.list.map V.str))) (nl : l ≠ p) (hok : wd.Ok) : ∀ x ∈ oddL l1 l, OddV K p H x := by
  intro x hx
  unfold oddL at hx
  simp only [List.mem_cons, List.not_mem_nil, or_false] at hx
  have badL : ∀ {H' : Hp} {a : Addr} {xs : List V}, H' a = some (.lst xs) → BadIx K H' (.ref a) := fun e => ⟨"list", .base (.lst e), .inr ⟨by decide +kernel, by decide +kernel⟩⟩
  rcases hx with rfl | rfl | rfl | rfl | rfl | rfl | rfl | rfl | rfl | rfl
  · exact fun H' _ => ⟨.inr ⟨"NoneType", .base .non, .inr ⟨by decide +kernel, by decide +kernel⟩⟩, _, .non, by decide +kernel⟩
  · exact fun H' _ => ⟨.inr ⟨"bool", .base (.bl true), .inl (by decide +kernel)⟩, _, .bl true, by decide +kernel⟩
  · exact fun H' _ => ⟨.inl ⟨0, rfl, by omega⟩, _, .int 0, by decide +kernel⟩
  · exact fun H' _ => ⟨.inl ⟨4, rfl, by omega⟩, _, .int 4, by decide +kernel⟩
  · exact fun H' _ => ⟨.inl ⟨-1, rfl, by omega⟩, _, .int (-1), by decide +kernel⟩
  · exact fun H' _ => ⟨.inr ⟨"str", .base (.str "2"), .inr ⟨by decide +kernel, by decide +kernel⟩⟩, _, .str "2", by decide +kernel⟩
  · exact fun H' k => ⟨.inr (badL (k _ _ n1 h1)), _, .lst (SqL.of (k _ _ n1 h1)) (.cons (.int 1) .nil), by decide +kernel⟩
  · exact fun H' _ => ⟨.inl ⟨10 ^ 20, rfl, by decide⟩, _, .int (10 ^ 20), by decide +kernel⟩
  · exact fun H' _ => ⟨.inr ⟨"str", .base (.str "early"), .inr ⟨by decide +kernel, by decide +kernel⟩⟩, _, .str "early", by decide +kernel⟩
  · refine fun H' k => ⟨.inr (badL (k _ _ nl hl)), _, .lst (SqL.of (k _ _ nl hl)) (dp_strs _), ?_⟩
    unfold SeqAt.shaped
    simp only [PyData.canLay0, PyData.canLayAll0, PyData.depth, PyData.depthAll, dep_strs, words_lay hok]
    decide +kernel
def wrongL (l t : Addr) : List V := [.non, .bl true, .str "early", .ref l, .int 3, .ref t]
theorem wrong_all {K : PySem.W.Frag} {CB p t l : Addr} {H : Hp} {xs ys : List V} (k : KB K CB) (ht : H t = some (.tup xs)) (n1 : t ≠ p) (hl : H l = some (.lst ys)) (nl : l ≠ p) : ∀ x ∈ wrongL l t, WrongV K CB p H x := by
  intro x hx
  unfold wrongL at hx
  simp only [List.mem_cons, List.not_mem_nil, or_false] at hx
  rcases hx with rfl | rfl | rfl | rfl | rfl | rfl
  · exact fun H' _ => ⟨_, .base .non, k.non⟩
  · exact fun H' _ => ⟨_, .base (.bl true), k.bl⟩
  · exact fun H' _ => ⟨_, .base (.str "early"), k.str⟩
  · exact fun H' z => ⟨_, .base (.lst (z _ _ nl hl)), k.lst⟩
  · exact fun H' _ => ⟨_, .base (.int 3), k.int⟩
  · exact fun H' z => ⟨_, .base (.tup (z _ _ n1 ht)), k.tup⟩
def optD : Option Str → PyData
  | some z => .str z
  | none => .none
theorem dp_opt {K : PySem.W.Frag} {H : Hp} : ∀ o : Option Str, Dp K H (optV o) (optD o)
  | some z => .str z
  | none => .non
theorem shaped_pair {z : Str} {d : PyData} (hz : PyData.canLay0 (.str z) = true) (h : PyData.canLay0 d = true) (hd : PyData.depth d ≤ 60) : SeqAt.shaped (.list [.str z, d]) = true := by
  unfold SeqAt.shaped
  rw [PyData.canLay0, PyData.canLayAll0, PyData.canLayAll0, PyData.canLayAll0, hz, h, PyData.depth, PyData.depthAll, PyData.depthAll, PyData.depthAll, PyData.depth]
  rw [Bool.and_true, Bool.and_self, Bool.true_and]
  exact decide_eq_true (by omega)
theorem reason_lay (wd : Wds) : SeqAt.shaped (.list [.str "reason", optD (reasonW wd)]) = true := by
  unfold reasonW
  split
  · decide +kernel
  · split
    · decide +kernel
    · split
      · decide +kernel
      · split <;> decide +kernel
theorem ne_pool {H : Hp} {p q : Addr} (h : Pool H p) (n : H q = none) : q ≠ p := by
  obtain ⟨_, _, e, _⟩ := h
  exact (ne_of_none e n).symm
end K1
namespace K1
open PySem PySem.Spec PyProof.Rows L2 Bk
def spLaw (K : PySem.W.Frag) : Sp := fun vs H Q _ => ∃ (a : Addr) (ns : List Int), vs = [.ref a] ∧ SqL K H a (ns.map V.int) ∧ ns.length ≤ 63 ∧ ∀ H', Q (.bl true) H'
section
variable {P : Program} {w : World} {K : PySem.W.Frag} {mg : Str → Option Value} {base : Heap} {CB CE CP fQ : Addr}
theorem ok_law {f fD fT fW fM fL fS fA fR fN : Addr} {fd fdD fdT fdW fdM fdL fdS fdA fdR fdN fdQ : FuncData} (F : Fun K "law" "law" sLaw f fd) (T : Tx mg) (KBk : KB K CB) (NE : Ow.NeC K CB fQ) (bQ : Binds K fdQ ["self", "other"] []) (GQ : FnOk P w K mg base CX0 1 fQ fdQ ["self", "other"] (spMEq CB))
    (mD : mg "_law_draw" = some (.ref fD)) (kD : PySem.W.keepIn K (.ref fD) = true) (bD : Binds K fdD ["_law_script", "_law_k"] []) (GD : FnOk P w K mg base CX0 1 fD fdD ["_law_script", "_law_k"] (spDraw K))
    (mT : mg "_law_take" = some (.ref fT)) (kT : PySem.W.keepIn K (.ref fT) = true) (bT : Binds K fdT ["_law_pool", "_law_many"] []) (GT : FnOk P w K mg base CX0 1 fT fdT ["_law_pool", "_law_many"] spTake)
    (mW : mg "_law_new_words" = some (.ref fW)) (kW : PySem.W.keepIn K (.ref fW) = true) (bW : Binds K fdW ["_law_pool"] []) (GW : FnOk P w K mg base CX0 2 fW fdW ["_law_pool"] spNewWords)
    (mM : mg "_law_made_book" = some (.ref fM)) (kM : PySem.W.keepIn K (.ref fM) = true) (bM : Binds K fdM ["_law_words"] []) (GM : FnOk P w K mg base CX0 4 fM fdM ["_law_words"] (spMade K CB))
    (mL : mg "_law_shapes" = some (.ref fL)) (kL : PySem.W.keepIn K (.ref fL) = true) (bL : Binds K fdL ["_law_owning", "_law_places"] []) (GL : FnOk P w K mg base CX0 2 fL fdL ["_law_owning", "_law_places"] (spLShapes K))
    (mS : mg "shapes" = some (.ref fS)) (kS : PySem.W.keepIn K (.ref fS) = true) (bS : Binds K fdS ["book", "places"] []) (GS : FnOk P w K mg base (CX P w) 4 fS fdS ["book", "places"] (spShapes K CB CE CP))
    (mA : mg "_law_asked_shapes" = some (.ref fA)) (kA : PySem.W.keepIn K (.ref fA) = true) (bA : Binds K fdA ["_law_book", "_law_places"] []) (GA : FnOk P w K mg base CX0 5 fA fdA ["_law_book", "_law_places"] (spAskS K CB))
    (mR : mg "_law_asked_reason" = some (.ref fR)) (kR : PySem.W.keepIn K (.ref fR) = true) (bR : Binds K fdR ["_law_book"] []) (GR : FnOk P w K mg base CX0 5 fR fdR ["_law_book"] (spAskR K CB))
    (mN : mg "_law_reason" = some (.ref fN)) (kN : PySem.W.keepIn K (.ref fN) = true) (bN : Binds K fdN ["_law_words"] []) (GN : FnOk P w K mg base CX0 1 fN fdN ["_law_words"] (spLReason K)) :
    FnOk P w K mg base CX0 6 f fd ["_law_script"] (spLaw K) := by
  refine F.ok scLaw (fun vs H Q E h => ?_) (fun cdv A outer s H vs Q E hr h => ?_)
  · obtain ⟨a, ns, rfl, _⟩ := h
    rfl
  · obtain ⟨a, ns, rfl, hS, hlen, q⟩ := h
    have hr1 : Room 1 _ := hr.mono (by decide)
    have hr2 : Room 2 _ := hr.mono (by decide)
    have hr4 : Room 4 _ := hr.mono (by decide)
    refine ⟨_, pss_cons (ps_for PassesOwn.never rfl (pi_range1 (by rfl) T.range (pa_cons (pe_callB (call_max2 rfl) (by rfl) T.max boot_max (pa_cons pe_int (pa_cons (pe_callB (call_min2 rfl) (by rfl) T.min boot_min (pa_cons pe_int (pa_cons (pe_callB call_len_seq (by rfl) T.len PySem.boot_len (pa_cons (pv 0) pa_nil)) pa_nil))) pa_nil))) pa_nil)) (pg_name (i := 1) scLaw.nd rfl (Or.inl rfl))
        (pss_cons (ps_set (i := 2) scLaw.nd rfl (Or.inl rfl) (pe_call GD hr1 (by rfl) mD kD bD .nil pass0 (pa_cons (pv 0) (pa_cons (pv 1) pa_nil)))) <|
        pss_cons (ps_set (i := 3) scLaw.nd rfl (Or.inl rfl) (pe_call GW hr2 (by rfl) mW kW bW .nil pass0 (pa_cons (pv 2) pa_nil))) <|
        pss_cons (ps_set (i := 4) scLaw.nd rfl (Or.inl rfl) (pe_call GM hr4 (by rfl) mM kM bM .nil pass0 (pa_cons (pv 3) pa_nil))) <|
        pss_cons (ps_set (i := 5) scLaw.nd rfl (Or.inl rfl) (pe_op op_add pe_int (pe_call GT hr1 (by rfl) mT kT bT .nil pass0 (pa_cons (pv 2) (pa_cons pe_int pa_nil))))) <|
        pss_cons (ps_set (i := 6) scLaw.nd rfl (Or.inl rfl) (pe_call GL hr2 (by rfl) mL kL bL .nil pass0 (pa_cons (pe_ix ix_list (pv 3) pe_int (fun _ _ => rfl)) (pa_cons (pv 5) pa_nil)))) <|
        pss_cons (ps_set (i := 7) scLaw.nd rfl (Or.inl rfl) (pe_call GS hr4 (by rfl) mS kS bS .nil passL (pa_cons (pv 4) (pa_cons (pv 5) pa_nil)))) <|
        pss_cons (ps_if (PW.pt (pw_or (pt_not (pt_val (pe_callB call_isi (by rfl) T.isi (by decide +kernel) (pa_cons (pv 7) (pa_cons (pe_bltn (v := .ty "list") (u := .type "list") (by rfl) T.list (by decide +kernel) rfl) pa_nil)))))
            (pw_or (pt_cmpR (op_neD hr.units) (pv 7) (pv 6) (nomark _))
            (pw_or1 (pt_cmpR (op_neD hr.units) (pe_lc (own := [("_law_row", 8)]) (g := gName 8) rfl scLaw.nd (pi_list (pv 7)) (blkOk_by (own := [("_law_row", 8)]) (N := ["_law_script", "_law_cell", "_law_pool", "_law_words", "_law_book", "_law_places", "_law_due", "_law_found", "_law_row", "_law_odd", "_law_wrong"]) (sc := defScope sLaw) (by decide +kernel))
              (fun _ _ _ _ _ => pg_name (i := 8) scLaw.nd rfl (Or.inl rfl)) (fun _ _ _ _ _ => pts_one (pt_not (pt_val (pe_callB (show CallR _ (.builtin "isinstance") (rIsi K) from call_isi) (by rfl) T.isi (by decide +kernel) (pa_cons (pv 8) (pa_cons (pe_bltn (v := .ty "tuple") (u := .type "tuple") (by rfl) T.tuple (by decide +kernel) rfl) pa_nil)))))) (fun _ _ _ _ _ => pv 8)) (pe_lst pa_nil) (nomark _)))))) (pss_one (ps_ret pe_bl)) pss_nil) <|
        pss_cons (ps_expr (pe_bm PySem.F.plainAttrs_list PySem.F.slot_list_append PySem.F.type_list_append mt_append (pv 7) (pa_cons (pe_tup (pa_cons pe_str pa_nil)) pa_nil))) <|
        pss_cons (ps_if (PW.pt (pw_or (pt_cmpR (op_neD hr.units) (pe_call GS hr4 (by rfl) mS kS bS .nil passL (pa_cons (pv 4) (pa_cons (pv 5) pa_nil))) (pv 6) (nomark _))
            (pw_or1 (pt_cmpR (op_neD hr.units) (pe_call GR hr (by rfl) mR kR bR .nil pass0 (pa_cons (pv 4) pa_nil)) (pe_lst (pa_cons pe_str (pa_cons (pe_call GN hr1 (by rfl) mN kN bN .nil pass0 (pa_cons (pv 3) pa_nil)) pa_nil))) (nomark _))))) (pss_one (ps_ret pe_bl)) pss_nil) <|
        pss_cons (ps_if (pt_cmpR (Ow.op_neO NE GQ hr2 bQ pass0) (pv 4) (pe_call GM hr4 (by rfl) mM kM bM .nil pass0 (pa_cons (pv 3) pa_nil)) (nomark _)) (pss_one (ps_ret pe_bl)) pss_nil) <|
        pss_cons (ps_set (i := 9) scLaw.nd rfl (Or.inl rfl) (pe_ix ix_list (pe_lst (pa_cons pe_non (pa_cons pe_bl (pa_cons pe_int (pa_cons pe_int (pa_cons (pe_un un_neg pe_int) (pa_cons pe_str (pa_cons (pe_lst (pa_cons pe_int pa_nil)) (pa_cons (pe_op op_pow pe_int pe_int) (pa_cons pe_str (pa_cons (pv 3) pa_nil)))))))))))
            (pe_call GT hr1 (by rfl) mT kT bT .nil pass0 (pa_cons (pv 2) (pa_cons pe_int pa_nil))) (fun _ _ => rfl))) <|
        pss_cons (ps_set (i := 10) scLaw.nd rfl (Or.inl rfl) (pe_ix ix_list (pe_lst (pa_cons pe_non (pa_cons pe_bl (pa_cons pe_str (pa_cons (pv 3) (pa_cons pe_int (pa_cons (pe_tup (pa_cons pe_str pa_nil)) pa_nil)))))))
            (pe_call GT hr1 (by rfl) mT kT bT .nil pass0 (pa_cons (pv 2) (pa_cons pe_int pa_nil))) (fun _ _ => rfl))) <|
        pss_cons (ps_if (PW.pt (pw_or (pt_cmpR (op_neD hr.units) (pe_call GA hr (by rfl) mA kA bA .nil pass0 (pa_cons (pv 4) (pa_cons (pv 9) pa_nil))) (pe_lst (pa_cons pe_str (pa_cons (pv 9) pa_nil))) (nomark _))
            (pw_or1 (pt_cmpR (op_neD hr.units) (pe_call GA hr (by rfl) mA kA bA .nil pass0 (pa_cons (pv 10) (pa_cons (pv 9) pa_nil))) (pe_lst (pa_cons pe_str (pa_cons pe_non pa_nil))) (nomark _))))) (pss_one (ps_ret pe_bl)) pss_nil) <|
        pss_one (ps_if (PW.pt (pw_or (pt_cmpR (op_neD hr.units) (pe_call GA hr (by rfl) mA kA bA .nil pass0 (pa_cons (pv 10) (pa_cons (pv 5) pa_nil))) (pe_lst (pa_cons pe_str (pa_cons pe_non pa_nil))) (nomark _))
            (pw_or1 (pt_cmpR (op_neD hr.units) (pe_call GR hr (by rfl) mR kR bR .nil pass0 (pa_cons (pv 10) pa_nil)) (pe_lst (pa_cons pe_str (pa_cons pe_non pa_nil))) (nomark _))))) (pss_one (ps_ret pe_bl)) pss_nil)))
      (pss_one (ps_ret pe_bl)), ?_⟩
    refine ⟨_, rfl, a, _, rfl, .inl hS, _, _, rfl, _, _, rfl, ?_⟩
    rw [List.length_map]
    generalize hN : (if (if ((ns.length : Nat) : Int) < (12 : Int) then ((ns.length : Nat) : Int) else (12 : Int)) > 1 then (if ((ns.length : Nat) : Int) < (12 : Int) then ((ns.length : Nat) : Int) else (12 : Int)) else (1 : Int)) = N
    have hN6 : 1 ≤ N ∧ N ≤ 12 := by
      rw [← hN]
      constructor
      · split
        · omega
        · omega
      · split
        · split <;> omega
        · omega
    refine ⟨N, rfl, by omega, by omega, ?_⟩
    refine for_range (lo := 0) (n := N.toNat) (fun i σ H' => ∃ o1 o2 o3 o4 o5 o6 o7 o9 o10, σ = [some (.ref a), o1, o2, o3, o4, o5, o6, o7, none, o9, o10] ∧ Same H H') ⟨_, _, _, _, _, _, _, _, _, rfl, Same.refl H⟩ ?_ ?_
    · rintro i σ H0 hi ⟨o1, o2, o3, o4, o5, o6, o7, o9, o10, rfl, sm0⟩
      -- the pool, the words, the book
      refine ⟨_, rfl, _, rfl, a, ns, i, by rw [Int.zero_add]; rfl, seq_same sm0 hS, by omega, by omega, fun p H1 np s1 hp1 => ?_⟩
      have npH : H p = none := none_of sm0 np
      have sm1 := sm0.trans s1
      refine ⟨_, rfl, p, rfl, hp1, fun l wd H2 hok nl hp2 k2 hl => ?_⟩
      have sm2 : Same H H2 := same_keep sm1 npH k2
      have nlp : l ≠ p := by
        obtain ⟨_, _, e, _⟩ := hp1
        exact (ne_of_none e nl).symm
      refine ⟨_, rfl, l, wd, rfl, SqL.of hl, hok, fun b H3 nb s3 hb => ?_⟩
      -- the places
      refine ⟨_, rfl, p, 3, rfl, hp2.same s3, by decide, by decide, fun d H4 d0 d1 hp4 k4 => ?_⟩
      obtain ⟨n, hn1, hn3, hn⟩ : ∃ n : Nat, 1 ≤ n ∧ n ≤ 3 ∧ 1 + d = (n : Int) := ⟨(1 + d).toNat, by omega, by omega, by omega⟩
      have hl4 : H4 l = some (.lst (wd.list.map V.str)) := k4 _ _ nlp (s3 _ _ hl)
      have hb4 : BookAt CB H4 b wd := hb.keep k4 (hp2.same s3)
      have sm4 : Same H H4 := same_keep (sm2.trans s3) npH k4
      refine ⟨_, _, rfl, rfl, ?_⟩
      -- what is due
      refine ⟨_, rfl, l, _, 0, _, rfl, rfl, SqL.of hl4, atI_nat (j := 0) rfl, _, rfl, wd.o, n, (by show [V.str wd.o, V.int (1 + d)] = _; rw [hn]), hn1, hn3, fun u ps H5 nu s5 hu hps => ?_⟩
      have hold5 : Hold K CB p l b wd u ps (shapesL wd.o n) H5 := ⟨hp4.same s5, s5 _ _ hl4, hb4.same s5, hu, hps, nlp, by
        obtain ⟨_, _, e, _⟩ := hp4
        exact (ne_of_none e nu).symm⟩
      have sm5 := sm4.trans s5
      -- what is found
      refine ⟨_, rfl, _, rfl, _, _, rfl, .inl ⟨b, wd, n, rfl, hold5.bo, hok, congrArg V.int hn, hn1, hn3, fun g qs H6 ng s6 hg hqs => ?_⟩⟩
      have hold6 := hold5.same s6
      have sm6 := sm5.trans s6
      have gH : H g = none := none_of sm5 ng
      have gp : p ≠ g := by
        obtain ⟨_, _, e, _⟩ := hold5.po
        exact ne_of_none e ng
      have gl : l ≠ g := ne_of_none hold5.wo ng
      have gu : u ≠ g := ne_of_none hold5.du ng
      have lay := shapes_lay wd.o n
      refine ⟨_, rfl, _, _, _, _, true, rfl, .ty "list", .base (.lst hg), kit_ty (by decide +kernel), true, rfl, iteF ?_⟩
      refine ⟨_, rfl, _, rfl, rowsD (shapesL wd.o n), rowsD (shapesL wd.o n), .lst (SqL.of hg) (dp_rows _ _ hqs.tq), .lst (SqL.of hold6.du) (dp_rows _ _ hold6.ro), lay, lay, _, rfl, ?_⟩
      rw [eqv_self lay]
      refine iteF ?_
      -- all that was found are tuples
      refine ⟨_, rfl, g, rfl, ⟨_, SqL.of hg⟩, fun D nD => ?_⟩
      have sD := same_new (o := .lst []) nD
      refine lc_list (K := K) (a := g) (xs := qs.map V.ref) (fun _ H' => H' = upd H6 D (.lst [])) rfl (fun _ H' _ e => by rw [e]; exact SqL.of (sD _ _ hg)) ?_ ?_
      · rintro j x H7 hx rfl
        obtain ⟨q0, hq0, rfl⟩ := ref_at hx
        obtain ⟨r, _, hr0⟩ := hqs.2 j q0 hq0
        refine ⟨rfl, ?_⟩
        exact ⟨_, rfl, _, _, _, _, true, rfl, .ty "tuple", (hr0.same sD).ty, kit_ty (by decide +kernel), true, rfl, iteF rfl⟩
      rintro H7 rfl
      refine ⟨by show 0 ≤ sizeLine; decide, fun z nz => ?_⟩
      have sz := same_new (o := .lst []) nz
      refine ⟨.list [], .list [], .lst (SqL.of (sz _ _ upd_same)) .nil, .lst (SqL.of upd_same) .nil, by decide +kernel, by decide +kernel, _, rfl, ?_⟩
      rw [show (!PyData.eqv (.list []) (.list [])) = false by decide +kernel]
      refine iteF ?_
      have s8 : Same H6 (upd (upd H6 D (.lst [])) z (.lst [])) := sD.trans sz
      have hold8 := hold6.same s8
      have sm8 := sm6.trans s8
      have hg8 := s8 _ _ hg
      revert hold8 sm8 hg8
      generalize upd (upd H6 D (.lst [])) z (.lst []) = H8
      intro hold8 sm8 hg8
      -- one shape more is put into what was found
      refine ⟨_, rfl, .inl ⟨rfl, _, SqL.of hg8⟩, by show 1 ≤ sizeLine; decide, fun t nt => ?_⟩
      have st := same_new (o := .tup [.str "own"]) nt
      refine ⟨g, _, _, rfl, rfl, st _ _ hg8, ?_, ?_⟩
      · rw [List.length_map, hqs.1]
        have h1 : (shapesL wd.o n).length ≤ (allR n).length := List.length_filter_le _ _
        have h2 := allR_small (n := n) hn3
        exact small1000 (by omega)
      have hold9 := (hold8.same st).lst (ys := qs.map V.ref ++ [.ref t]) (st _ _ hg8) gp gl gu
      have sm9 : Same H (upd (upd H8 t (.tup [.str "own"])) g (.lst (qs.map V.ref ++ [.ref t]))) := same_upd (sm8.trans st) gH
      revert hold9 sm9
      generalize upd (upd H8 t (.tup [.str "own"])) g (.lst (qs.map V.ref ++ [.ref t])) = H9
      intro hold9 sm9
      -- asked again
      refine ⟨_, rfl, _, rfl, _, _, rfl, .inl ⟨b, wd, n, rfl, hold9.bo, hok, congrArg V.int hn, hn1, hn3, fun g2 qs2 H10 ng2 s10 hg2 hqs2 => ?_⟩⟩
      have hold10 := hold9.same s10
      have sm10 := sm9.trans s10
      refine ⟨_, rfl, rowsD (shapesL wd.o n), rowsD (shapesL wd.o n), .lst (SqL.of hg2) (dp_rows _ _ hqs2.tq), .lst (SqL.of hold10.du) (dp_rows _ _ hold10.ro), lay, lay, _, rfl, ?_⟩
      rw [eqv_self lay]
      refine iteF ?_
      refine ⟨_, rfl, _, rfl, .inr ⟨b, wd, rfl, hold10.bo, fun r1 H11 nr1 s11 hr1 => ?_⟩⟩
      have hold11 := hold10.same s11
      refine ⟨_, rfl, l, wd, rfl, SqL.of hold11.wo, hok, fun H12 s12 => ⟨by show 2 ≤ sizeLine; decide, fun r2 nr2 => ?_⟩⟩
      have s13 := s12.trans (same_new (o := .lst [.str "reason", optV (reasonW wd)]) nr2)
      refine ⟨.list [.str "reason", optD (reasonW wd)], .list [.str "reason", optD (reasonW wd)], .lst (SqL.of (s13 _ _ hr1)) (.cons (.str _) (.cons (dp_opt _) .nil)), .lst (SqL.of upd_same) (.cons (.str _) (.cons (dp_opt _) .nil)), reason_lay wd, reason_lay wd, _, rfl, ?_⟩
      rw [eqv_self (reason_lay wd)]
      refine iteF ?_
      have hold13 := hold11.same s13
      have sm13 := (sm10.trans s11).trans s13
      revert hold13 sm13
      generalize upd H12 r2 (.lst [.str "reason", optV (reasonW wd)]) = H13
      intro hold13 sm13
      -- the book is as it was
      refine ⟨_, rfl, _, rfl, l, wd, rfl, SqL.of hold13.wo, hok, fun b2 H14 nb2 s14 hb2 => ?_⟩
      have hold14 := hold13.same s14
      have sm14 := sm13.trans s14
      obtain ⟨dx1, d1, hx1, hd1'⟩ := id hold14.bo
      obtain ⟨dx2, d2, hx2, hd2'⟩ := id hb2
      refine ⟨b, dx1, _, rfl, hx1, .inl ⟨b2, dx2, _, rfl, hx2⟩, b, b2, wd, rfl, hold14.bo, hb2, true, rfl, _, rfl, iteF ?_⟩
      -- odd values
      refine ⟨_, rfl, by show 1 ≤ sizeLine; decide, fun l1 nl1 => ⟨10, 20, rfl, rfl, ⟨by decide, by decide, by decide⟩, _, rfl, by show 10 ≤ sizeLine; decide, fun l2 nl2 => ?_⟩⟩
      have sl1 := same_new (o := .lst [.int 1]) nl1
      have hl1p : l1 ≠ p := ne_pool hold14.po nl1
      have hold15 := hold14.same sl1
      have hl2p : l2 ≠ p := ne_pool hold15.po nl2
      have sl2 := same_new (o := .lst (oddL l1 l)) nl2
      have hold16 := hold15.same sl2
      have odds := odd_all (K := K) (sl2 _ _ upd_same) hl1p hold16.wo nlp hok
      refine ⟨_, rfl, p, 10, rfl, hold16.po, by decide, by decide, fun e1 H17 e1a e1b hp17 k17 => ?_⟩
      obtain ⟨j1, rfl⟩ : ∃ j1 : Nat, e1 = (j1 : Int) := ⟨e1.toNat, by omega⟩
      have hj1 : j1 < (oddL l1 l).length := by
        show j1 < 10
        omega
      refine ⟨l2, _, _, (oddL l1 l)[j1], rfl, rfl, SqL.of (k17 _ _ hl2p (show _ = some (HO.lst (oddL l1 l)) from upd_same)), atI_nat (List.getElem?_eq_getElem hj1), ?_⟩
      have odd17 := (odds _ (List.getElem_mem hj1)).keep k17
      revert odd17
      generalize (oddL l1 l)[j1] = x
      intro odd17
      have hold17 := hold16.keep k17 hp17
      have sm17 : Same H H17 := same_keep ((sm14.trans sl1).trans sl2) npH k17
      -- wrong values
      refine ⟨_, rfl, by show 1 ≤ sizeLine; decide, fun t1 nt1 => ⟨by show 6 ≤ sizeLine; decide, fun l3 nl3 => ?_⟩⟩
      have st1 := same_new (o := .tup [.str "own"]) nt1
      have ht1p : t1 ≠ p := ne_pool hold17.po nt1
      have hold18 := hold17.same st1
      have hl3p : l3 ≠ p := ne_pool hold18.po nl3
      have sl3 := same_new (o := .lst (wrongL l t1)) nl3
      have hold19 := hold18.same sl3
      have wrongs := wrong_all (CB := CB) KBk (sl3 _ _ upd_same) ht1p hold19.wo nlp
      refine ⟨_, rfl, p, 6, rfl, hold19.po, by decide, by decide, fun e2 H20 e2a e2b hp20 k20 => ?_⟩
      obtain ⟨j2, rfl⟩ : ∃ j2 : Nat, e2 = (j2 : Int) := ⟨e2.toNat, by omega⟩
      have hj2 : j2 < (wrongL l t1).length := by
        show j2 < 6
        omega
      refine ⟨l3, _, _, (wrongL l t1)[j2], rfl, rfl, SqL.of (k20 _ _ hl3p (show _ = some (HO.lst (wrongL l t1)) from upd_same)), atI_nat (List.getElem?_eq_getElem hj2), ?_⟩
      have wrong20 := (wrongs _ (List.getElem_mem hj2)).keep k20
      revert wrong20
      generalize (wrongL l t1)[j2] = y
      intro wrong20
      have hold20 := hold19.keep k20 hp20
      have sm20 : Same H H20 := same_keep ((sm17.trans st1).trans sl3) npH k20
      have odd20 := odd17.keep ((KeepP.same (st1.trans sl3)).trans k20)
      -- the last questions
      refine ⟨_, rfl, _, rfl, _, x, rfl, .inr ⟨b, wd, rfl, hold20.bo, (odd20 _ (KeepP.refl _ _)).1, fun r3 H21 nr3 s21 hr3 => ?_⟩⟩
      refine ⟨_, rfl, by show 2 ≤ sizeLine; decide, fun r4 nr4 => ?_⟩
      have s22 := same_new (o := .lst [.str "places", x]) nr4
      obtain ⟨_, dd, hdd, ldd⟩ := odd20 _ (KeepP.same (s21.trans s22))
      refine ⟨.list [.str "places", dd], .list [.str "places", dd], .lst (SqL.of (s22 _ _ hr3)) (.cons (.str _) (.cons hdd .nil)), .lst (SqL.of upd_same) (.cons (.str _) (.cons hdd .nil)), ldd, ldd, _, rfl, ?_⟩
      rw [eqv_self ldd]
      refine iteF ?_
      have s23 := s21.trans s22
      revert s23
      generalize upd H21 r4 (.lst [.str "places", x]) = H23
      intro s23
      have lbk : SeqAt.shaped (.list [.str "book", .none]) = true := by decide +kernel
      refine ⟨_, rfl, _, rfl, y, x, rfl, .inl ⟨wrong20 _ (KeepP.same s23), fun r5 H24 nr5 s24 hr5 => ⟨by show 2 ≤ sizeLine; decide, fun r6 nr6 => ?_⟩⟩⟩
      have s25 := same_new (o := .lst [.str "book", .non]) nr6
      refine ⟨.list [.str "book", .none], .list [.str "book", .none], .lst (SqL.of (s25 _ _ hr5)) (.cons (.str _) (.cons .non .nil)), .lst (SqL.of upd_same) (.cons (.str _) (.cons .non .nil)), lbk, lbk, _, rfl, ?_⟩
      rw [eqv_self lbk]
      refine iteF ?_
      have s26 := (s23.trans s24).trans s25
      revert s26
      generalize upd H24 r6 (.lst [.str "book", .non]) = H26
      intro s26
      refine ⟨_, rfl, _, rfl, y, _, rfl, .inl ⟨wrong20 _ (KeepP.same s26), fun r7 H27 nr7 s27 hr7 => ⟨by show 2 ≤ sizeLine; decide, fun r8 nr8 => ?_⟩⟩⟩
      have s28 := same_new (o := .lst [.str "book", .non]) nr8
      refine ⟨.list [.str "book", .none], .list [.str "book", .none], .lst (SqL.of (s28 _ _ hr7)) (.cons (.str _) (.cons .non .nil)), .lst (SqL.of upd_same) (.cons (.str _) (.cons .non .nil)), lbk, lbk, _, rfl, ?_⟩
      rw [eqv_self lbk]
      refine iteF ?_
      have s29 := (s26.trans s27).trans s28
      revert s29
      generalize upd H27 r8 (.lst [.str "book", .non]) = H29
      intro s29
      refine ⟨_, rfl, y, rfl, .inl ⟨wrong20 _ (KeepP.same s29), fun r9 H30 nr9 s30 hr9 => ⟨by show 2 ≤ sizeLine; decide, fun r10 nr10 => ?_⟩⟩⟩
      have s31 := same_new (o := .lst [.str "book", .non]) nr10
      refine ⟨.list [.str "book", .none], .list [.str "book", .none], .lst (SqL.of (s31 _ _ hr9)) (.cons (.str _) (.cons .non .nil)), .lst (SqL.of upd_same) (.cons (.str _) (.cons .non .nil)), lbk, lbk, _, rfl, ?_⟩
      rw [eqv_self lbk]
      exact iteF ⟨_, _, _, _, _, _, _, _, _, rfl, sm20.trans ((s29.trans s30).trans s31)⟩
    · rintro σ H0 _
      exact q H0
end
end K1
namespace K1
open PySem PySem.Spec PyProof.Rows L2 Bk
theorem kit_self {K : PySem.W.Frag} {C : Addr} : PySem.W.kitOne K (.ref C) (.ref C) = some true := by
  unfold PySem.W.kitOne
  rw [if_pos (by simp)]
theorem cls_own {K : PySem.W.Frag} {C : Addr} (h : PySem.W.isClsIn K C = true) : (PySem.W.clsIn K C).isSome = true := by
  first | exact h | (unfold PySem.W.isClsIn at h; exact h)
theorem kit_own {K : PySem.W.Frag} {C : Addr} {n : String} {b : Bool} (h1 : PySem.W.isClsIn K C = true) (h2 : PySem.W.typeIn K (.ref C) = some (.type "type")) (h3 : PySem.W.subIn K (.type n) (.ref C) = some b) : PySem.W.kitOne K (.type n) (.ref C) = some b := by
  unfold PySem.W.kitOne
  rw [if_neg (by simp)]
  unfold PySem.W.kitCls
  show (if _ then _ else _) = _
  rw [cls_own h1, h2, if_pos (by simp), h3]
theorem exm_own {K : PySem.W.Frag} {D C : Addr} {b : Bool} (h0 : PySem.W.subIn K (.ref C) (.type "BaseException") = some true) (h1 : PySem.W.isClsIn K C = true) (h2 : PySem.W.typeIn K (.ref C) = some (.type "type")) (h3 : PySem.W.subIn K (.ref D) (.ref C) = some b) : PySem.W.exmOne K (.ref D) (.ref C) = some b := by
  unfold PySem.W.exmOne
  rw [h0, if_pos (by simp)]
  unfold PySem.W.kitCls
  show (if _ then _ else _) = _
  rw [cls_own h1, h2, if_pos (by simp), h3]
theorem sqT_of {K : PySem.W.Frag} {T : Addr} {od : Option Addr} {its : Array Value} {m : Nat} {sl : Array (Option Value)} {ws : List Str} (l : K.lookup T = some ⟨.type "tuple", od, .seq its m, sl⟩) (z : its.size ≤ sizeLine) (v : Vals (ws.map V.str) its.toList) (H : Hp) : SqT K H T (ws.map V.str) :=
  .inr ⟨_, its, m, l, rfl, rfl, z, v⟩
theorem all_mk {l : PySem.W.OpenLaw} {w : World} {K : PySem.W.Frag} {h : Heap} {mg : Str → Option Value} {fa CB CE CP D TS T0 T1 T2 T3 T4 f1 f2 f3 f4 f5 f6 f7 f8 f9 f10 f11 f12 f13 f14 f15 f16 f17 f18 fPo fPl fPc fPe fMi fMq fE fP qPo qPl qPc qPe : Addr} (X : K.In h) (G : h.Ns mainGlobals mg) (hfa : mg "law" = some (.ref fa))
    {od1 an1 od2 an2 od3 an3 od4 an4 od5 an5 od6 an6 od7 an7 od8 an8 od9 an9 od10 an10 od11 an11 od12 an12 od13 an13 od14 an14 od15 an15 od16 an16 od17 an17 od18 an18 odPo anPo odPl anPl odPc anPc odPe anPe odMi anMi odMq anMq odE anE odP anP : Option Addr} {sl1 sl2 sl3 sl4 sl5 sl6 sl7 sl8 sl9 sl10 sl11 sl12 sl13 sl14 sl15 sl16 sl17 sl18 slPo slPl slPc slPe slMi slMq slE slP : Array (Option Value)} {oc1 kV1 dc1 pm1 cd1 ct1 oc2 kV2 dc2 pm2 cd2 ct2 oc3 kV3 dc3 pm3 cd3 ct3 oc4 kV4 dc4 pm4 cd4 ct4 oc5 kV5 dc5 pm5 cd5 ct5 oc6 kV6 dc6 pm6 cd6 ct6 oc7 kV7 dc7 pm7 cd7 ct7 oc8 kV8 dc8 pm8 cd8 ct8 oc9 kV9 dc9 pm9 cd9 ct9 oc10 kV10 dc10 pm10 cd10 ct10 oc11 kV11 dc11 pm11 cd11 ct11 oc12 kV12 dc12 pm12 cd12 ct12 oc13 kV13 dc13 pm13 cd13 ct13 oc14 kV14 dc14 pm14 cd14 ct14 oc15 kV15 dc15 pm15 cd15 ct15 oc16 kV16 dc16 pm16 cd16 ct16 oc17 kV17 dc17 pm17 cd17 ct17 oc18 kV18 dc18 pm18 cd18 ct18 ocPo kVPo dcPo pmPo cdPo ctPo ocPl kVPl dcPl pmPl cdPl ctPl ocPc kVPc dcPc pmPc cdPc ctPc ocPe kVPe dcPe pmPe cdPe ctPe ocMi kVMi dcMi pmMi cdMi ctMi ocMq kVMq dcMq pmMq cdMq ctMq ocE kVE dcE pmE cdE ctE ocP kVP dcP pmP cdP ctP : Value} {rePo rePl rePc rePe : List Value} {tc1 : Tok} {es : Array DictEntry} {nD : Nat} {nmE qE : Str} {nsE : Addr} {bsE bmE : List Value} {kE0 kE1 kE2 kE3 kE5 : Option Value} {snE : List Str} {subE : List Value} {abE : Bool} {colE : Option Bool} {ddE : Option Addr} {nmP qP : Str} {nsP : Addr} {bsP bmP : List Value} {kP0 kP1 kP2 kP3 kP5 : Option Value} {snP : List Str} {subP : List Value} {abP : Bool} {colP : Option Bool} {ddP : Option Addr} {odT0 : Option Addr} {its0 : Array Value} {mT0 : Nat} {slT0 : Array (Option Value)} {odT1 : Option Addr} {its1 : Array Value} {mT1 : Nat} {slT1 : Array (Option Value)} {odT2 : Option Addr} {its2 : Array Value} {mT2 : Nat} {slT2 : Array (Option Value)} {odT3 : Option Addr} {its3 : Array Value} {mT3 : Nat} {slT3 : Array (Option Value)} {odT4 : Option Addr} {its4 : Array Value} {mT4 : Nat} {slT4 : Array (Option Value)} {odTS : Option Addr} {itsS : Array Value} {mTS : Nat} {slTS : Array (Option Value)}
    (a1 : PySem.W.nsIn K mainGlobals "_is_word" = some (some (.ref f1))) (l1 : K.lookup f1 = some ⟨oc1, od1, .func (PySem.W.fnOf "_is_word" "_is_word" (defArgs sIsWord) (defBody sIsWord) (defScope sIsWord) .none kV1 dc1 pm1 an1 cd1 ct1), sl1⟩) (c1 : PySem.W.codeIn K cd1 "_is_word" = true) (k1 : PySem.W.keepIn K (.ref f1) = true)
    (a2 : PySem.W.nsIn K mainGlobals "is_index" = some (some (.ref f2))) (l2 : K.lookup f2 = some ⟨oc2, od2, .func (PySem.W.fnOf "is_index" "is_index" (defArgs sIndex) (defBody sIndex) (defScope sIndex) .none kV2 dc2 pm2 an2 cd2 ct2), sl2⟩) (c2 : PySem.W.codeIn K cd2 "is_index" = true) (k2 : PySem.W.keepIn K (.ref f2) = true)
    (a3 : PySem.W.nsIn K mainGlobals "check_book" = some (some (.ref f3))) (l3 : K.lookup f3 = some ⟨oc3, od3, .func (PySem.W.fnOf "check_book" "check_book" (defArgs sChkB) (defBody sChkB) (defScope sChkB) .none kV3 dc3 pm3 an3 cd3 ct3), sl3⟩) (c3 : PySem.W.codeIn K cd3 "check_book" = true) (k3 : PySem.W.keepIn K (.ref f3) = true)
    (a4 : PySem.W.nsIn K mainGlobals "check_places" = some (some (.ref f4))) (l4 : K.lookup f4 = some ⟨oc4, od4, .func (PySem.W.fnOf "check_places" "check_places" (defArgs sChkP) (defBody sChkP) (defScope sChkP) .none kV4 dc4 pm4 an4 cd4 ct4), sl4⟩) (c4 : PySem.W.codeIn K cd4 "check_places" = true) (k4 : PySem.W.keepIn K (.ref f4) = true)
    (a5 : PySem.W.nsIn K mainGlobals "reason_for" = some (some (.ref f5))) (l5 : K.lookup f5 = some ⟨oc5, od5, .func (PySem.W.fnOf "reason_for" "reason_for" (defArgs sReason) (defBody sReason) (defScope sReason) .none kV5 dc5 pm5 an5 cd5 ct5), sl5⟩) (c5 : PySem.W.codeIn K cd5 "reason_for" = true) (k5 : PySem.W.keepIn K (.ref f5) = true)
    (a6 : PySem.W.nsIn K mainGlobals "shapes" = some (some (.ref f6))) (l6 : K.lookup f6 = some ⟨oc6, od6, .func (PySem.W.fnOf "shapes" "shapes" (defArgs sShapes) (defBody sShapes) (defScope sShapes) .none kV6 dc6 pm6 an6 cd6 ct6), sl6⟩) (c6 : PySem.W.codeIn K cd6 "shapes" = true) (k6 : PySem.W.keepIn K (.ref f6) = true)
    (a7 : PySem.W.nsIn K mainGlobals "reason_of" = some (some (.ref f7))) (l7 : K.lookup f7 = some ⟨oc7, od7, .func (PySem.W.fnOf "reason_of" "reason_of" (defArgs sReasonOf) (defBody sReasonOf) (defScope sReasonOf) .none kV7 dc7 pm7 an7 cd7 ct7), sl7⟩) (c7 : PySem.W.codeIn K cd7 "reason_of" = true) (k7 : PySem.W.keepIn K (.ref f7) = true)
    (a8 : PySem.W.nsIn K mainGlobals "_is_let_by" = some (some (.ref f8))) (l8 : K.lookup f8 = some ⟨oc8, od8, .func (PySem.W.fnOf "_is_let_by" "_is_let_by" (defArgs sLetBy) (defBody sLetBy) (defScope sLetBy) .none kV8 dc8 pm8 an8 cd8 ct8), sl8⟩) (c8 : PySem.W.codeIn K cd8 "_is_let_by" = true) (k8 : PySem.W.keepIn K (.ref f8) = true)
    (a9 : PySem.W.nsIn K mainGlobals "_law_draw" = some (some (.ref f9))) (l9 : K.lookup f9 = some ⟨oc9, od9, .func (PySem.W.fnOf "_law_draw" "_law_draw" (defArgs sDraw) (defBody sDraw) (defScope sDraw) .none kV9 dc9 pm9 an9 cd9 ct9), sl9⟩) (c9 : PySem.W.codeIn K cd9 "_law_draw" = true) (k9 : PySem.W.keepIn K (.ref f9) = true)
    (a10 : PySem.W.nsIn K mainGlobals "_law_take" = some (some (.ref f10))) (l10 : K.lookup f10 = some ⟨oc10, od10, .func (PySem.W.fnOf "_law_take" "_law_take" (defArgs sTake) (defBody sTake) (defScope sTake) .none kV10 dc10 pm10 an10 cd10 ct10), sl10⟩) (c10 : PySem.W.codeIn K cd10 "_law_take" = true) (k10 : PySem.W.keepIn K (.ref f10) = true)
    (a11 : PySem.W.nsIn K mainGlobals "_law_new_words" = some (some (.ref f11))) (l11 : K.lookup f11 = some ⟨oc11, od11, .func (PySem.W.fnOf "_law_new_words" "_law_new_words" (defArgs sNewWords) (defBody sNewWords) (defScope sNewWords) .none kV11 dc11 pm11 an11 cd11 ct11), sl11⟩) (c11 : PySem.W.codeIn K cd11 "_law_new_words" = true) (k11 : PySem.W.keepIn K (.ref f11) = true)
    (a12 : PySem.W.nsIn K mainGlobals "_law_made_book" = some (some (.ref f12))) (l12 : K.lookup f12 = some ⟨oc12, od12, .func (PySem.W.fnOf "_law_made_book" "_law_made_book" (defArgs sMade) (defBody sMade) (defScope sMade) .none kV12 dc12 pm12 an12 cd12 ct12), sl12⟩) (c12 : PySem.W.codeIn K cd12 "_law_made_book" = true) (k12 : PySem.W.keepIn K (.ref f12) = true)
    (a13 : PySem.W.nsIn K mainGlobals "_law_lets" = some (some (.ref f13))) (l13 : K.lookup f13 = some ⟨oc13, od13, .func (PySem.W.fnOf "_law_lets" "_law_lets" (defArgs sLets) (defBody sLets) (defScope sLets) .none kV13 dc13 pm13 an13 cd13 ct13), sl13⟩) (c13 : PySem.W.codeIn K cd13 "_law_lets" = true) (k13 : PySem.W.keepIn K (.ref f13) = true)
    (a14 : PySem.W.nsIn K mainGlobals "_law_shapes" = some (some (.ref f14))) (l14 : K.lookup f14 = some ⟨oc14, od14, .func (PySem.W.fnOf "_law_shapes" "_law_shapes" (defArgs sLShapes) (defBody sLShapes) (defScope sLShapes) .none kV14 dc14 pm14 an14 cd14 ct14), sl14⟩) (c14 : PySem.W.codeIn K cd14 "_law_shapes" = true) (k14 : PySem.W.keepIn K (.ref f14) = true)
    (a15 : PySem.W.nsIn K mainGlobals "_law_reason" = some (some (.ref f15))) (l15 : K.lookup f15 = some ⟨oc15, od15, .func (PySem.W.fnOf "_law_reason" "_law_reason" (defArgs sLReason) (defBody sLReason) (defScope sLReason) .none kV15 dc15 pm15 an15 cd15 ct15), sl15⟩) (c15 : PySem.W.codeIn K cd15 "_law_reason" = true) (k15 : PySem.W.keepIn K (.ref f15) = true)
    (a16 : PySem.W.nsIn K mainGlobals "_law_asked_shapes" = some (some (.ref f16))) (l16 : K.lookup f16 = some ⟨oc16, od16, .func (PySem.W.fnOf "_law_asked_shapes" "_law_asked_shapes" (defArgs sAskS) (defBody sAskS) (defScope sAskS) .none kV16 dc16 pm16 an16 cd16 ct16), sl16⟩) (c16 : PySem.W.codeIn K cd16 "_law_asked_shapes" = true) (k16 : PySem.W.keepIn K (.ref f16) = true)
    (a17 : PySem.W.nsIn K mainGlobals "_law_asked_reason" = some (some (.ref f17))) (l17 : K.lookup f17 = some ⟨oc17, od17, .func (PySem.W.fnOf "_law_asked_reason" "_law_asked_reason" (defArgs sAskR) (defBody sAskR) (defScope sAskR) .none kV17 dc17 pm17 an17 cd17 ct17), sl17⟩) (c17 : PySem.W.codeIn K cd17 "_law_asked_reason" = true) (k17 : PySem.W.keepIn K (.ref f17) = true)
    (a18 : PySem.W.nsIn K mainGlobals "law" = some (some (.ref f18))) (l18 : K.lookup f18 = some ⟨oc18, od18, .func (PySem.W.fnOf "law" "law" (defArgs sLaw) (defBody sLaw) (defScope sLaw) .none kV18 dc18 pm18 an18 cd18 ct18), sl18⟩) (c18 : PySem.W.codeIn K cd18 "law" = true) (k18 : PySem.W.keepIn K (.ref f18) = true)
    (aB : PySem.W.nsIn K mainGlobals "Book" = some (some (.ref CB)))
    (aE : PySem.W.nsIn K mainGlobals "InvalidBook" = some (some (.ref CE)))
    (aP : PySem.W.nsIn K mainGlobals "InvalidPlaces" = some (some (.ref CP)))
    (aD : PySem.W.nsIn K mainGlobals "SWITCHES" = some (some (.ref D)))
    (aS : PySem.W.nsIn K mainGlobals "SHAPE_WORDS" = some (some (.ref TS)))
    (lD : K.lookup D = some ⟨.type "dict", none, .dict es nD, #[]⟩)
    (kyD : PySem.W.KeysLit w.params es.toList)
    (loD : (D == sysModules) = false)
    (ksD : es.toList.map keyTx = prts.map some)
    (i0 : PySem.W.nsIn K D "owner" = some (some (.ref T0)))
    (i1 : PySem.W.nsIn K D "look" = some (some (.ref T1)))
    (i2 : PySem.W.nsIn K D "choose" = some (some (.ref T2)))
    (i3 : PySem.W.nsIn K D "wants" = some (some (.ref T3)))
    (i4 : PySem.W.nsIn K D "early" = some (some (.ref T4)))
    (lT0 : K.lookup T0 = some ⟨.type "tuple", odT0, .seq its0 mT0, slT0⟩)
    (zT0 : its0.size ≤ sizeLine)
    (vT0 : Vals (oW.map V.str) its0.toList)
    (lT1 : K.lookup T1 = some ⟨.type "tuple", odT1, .seq its1 mT1, slT1⟩)
    (zT1 : its1.size ≤ sizeLine)
    (vT1 : Vals (lW.map V.str) its1.toList)
    (lT2 : K.lookup T2 = some ⟨.type "tuple", odT2, .seq its2 mT2, slT2⟩)
    (zT2 : its2.size ≤ sizeLine)
    (vT2 : Vals (cW.map V.str) its2.toList)
    (lT3 : K.lookup T3 = some ⟨.type "tuple", odT3, .seq its3 mT3, slT3⟩)
    (zT3 : its3.size ≤ sizeLine)
    (vT3 : Vals (nW.map V.str) its3.toList)
    (lT4 : K.lookup T4 = some ⟨.type "tuple", odT4, .seq its4 mT4, slT4⟩)
    (zT4 : its4.size ≤ sizeLine)
    (vT4 : Vals (eW.map V.str) its4.toList)
    (lTS : K.lookup TS = some ⟨.type "tuple", odTS, .seq itsS mTS, slTS⟩)
    (zTS : itsS.size ≤ sizeLine)
    (vTS : Vals (shW.map V.str) itsS.toList)
    (atPo : PySem.W.findIn K (.ref CB) "owner" = some (some (.ref qPo)))
    (gePo : PySem.W.specialIn K (.ref qPo) "__get__" = some (some (.builtin "property.__get__")))
    (tkPo : PySem.W.takesIn K (.ref qPo) = some true)
    (rcPo : PySem.W.recIn K qPo "property" = some (.ref fPo :: rePo))
    (lPo : K.lookup fPo = some ⟨ocPo, odPo, .func (PySem.W.fnOf "owner" "Book.owner" (defArgs mOwner) (defBody mOwner) (defScope mOwner) .none kVPo dcPo pmPo anPo cdPo ctPo), slPo⟩) (cPo : PySem.W.codeIn K cdPo "Book.owner" = true) (kPo : PySem.W.keepIn K (.ref fPo) = true)
    (atPl : PySem.W.findIn K (.ref CB) "look" = some (some (.ref qPl)))
    (gePl : PySem.W.specialIn K (.ref qPl) "__get__" = some (some (.builtin "property.__get__")))
    (tkPl : PySem.W.takesIn K (.ref qPl) = some true)
    (rcPl : PySem.W.recIn K qPl "property" = some (.ref fPl :: rePl))
    (lPl : K.lookup fPl = some ⟨ocPl, odPl, .func (PySem.W.fnOf "look" "Book.look" (defArgs mLook) (defBody mLook) (defScope mLook) .none kVPl dcPl pmPl anPl cdPl ctPl), slPl⟩) (cPl : PySem.W.codeIn K cdPl "Book.look" = true) (kPl : PySem.W.keepIn K (.ref fPl) = true)
    (atPc : PySem.W.findIn K (.ref CB) "choose" = some (some (.ref qPc)))
    (gePc : PySem.W.specialIn K (.ref qPc) "__get__" = some (some (.builtin "property.__get__")))
    (tkPc : PySem.W.takesIn K (.ref qPc) = some true)
    (rcPc : PySem.W.recIn K qPc "property" = some (.ref fPc :: rePc))
    (lPc : K.lookup fPc = some ⟨ocPc, odPc, .func (PySem.W.fnOf "choose" "Book.choose" (defArgs mChoose) (defBody mChoose) (defScope mChoose) .none kVPc dcPc pmPc anPc cdPc ctPc), slPc⟩) (cPc : PySem.W.codeIn K cdPc "Book.choose" = true) (kPc : PySem.W.keepIn K (.ref fPc) = true)
    (atPe : PySem.W.findIn K (.ref CB) "early" = some (some (.ref qPe)))
    (gePe : PySem.W.specialIn K (.ref qPe) "__get__" = some (some (.builtin "property.__get__")))
    (tkPe : PySem.W.takesIn K (.ref qPe) = some true)
    (rcPe : PySem.W.recIn K qPe "property" = some (.ref fPe :: rePe))
    (lPe : K.lookup fPe = some ⟨ocPe, odPe, .func (PySem.W.fnOf "early" "Book.early" (defArgs mEarly) (defBody mEarly) (defScope mEarly) .none kVPe dcPe pmPe anPe cdPe ctPe), slPe⟩) (cPe : PySem.W.codeIn K cdPe "Book.early" = true) (kPe : PySem.W.keepIn K (.ref fPe) = true)
    (atMi : PySem.W.findIn K (.ref CB) "__init__" = some (some (.ref fMi)))
    (lMi : K.lookup fMi = some ⟨ocMi, odMi, .func (PySem.W.fnOf "__init__" "Book.__init__" (defArgs mInit) (defBody mInit) (defScope mInit) .none kVMi dcMi pmMi anMi cdMi ctMi), slMi⟩) (cMi : PySem.W.codeIn K cdMi "Book.__init__" = true) (kMi : PySem.W.keepIn K (.ref fMi) = true)
    (fnMi : PySem.W.isFn K (.ref fMi) = true)
    (atMq : PySem.W.findIn K (.ref CB) "__eq__" = some (some (.ref fMq)))
    (lMq : K.lookup fMq = some ⟨ocMq, odMq, .func (PySem.W.fnOf "__eq__" "Book.__eq__" (defArgs mEq) (defBody mEq) (defScope mEq) .none kVMq dcMq pmMq anMq cdMq ctMq), slMq⟩) (cMq : PySem.W.codeIn K cdMq "Book.__eq__" = true) (kMq : PySem.W.keepIn K (.ref fMq) = true)
    (fnMq : PySem.W.isFn K (.ref fMq) = true)
    (atE : PySem.W.findIn K (.ref CE) "__init__" = some (some (.ref fE)))
    (lE : K.lookup fE = some ⟨ocE, odE, .func (PySem.W.fnOf "__init__" "InvalidBook.__init__" (defArgs mErr) (defBody mErr) (defScope mErr) .none kVE dcE pmE anE cdE ctE), slE⟩) (cE : PySem.W.codeIn K cdE "InvalidBook.__init__" = true) (kE : PySem.W.keepIn K (.ref fE) = true)
    (atP : PySem.W.findIn K (.ref CP) "__init__" = some (some (.ref fP)))
    (lP : K.lookup fP = some ⟨ocP, odP, .func (PySem.W.fnOf "__init__" "InvalidPlaces.__init__" (defArgs mErrP) (defBody mErrP) (defScope mErrP) .none kVP dcP pmP anP cdP ctP), slP⟩) (cP : PySem.W.codeIn K cdP "InvalidPlaces.__init__" = true) (kP : PySem.W.keepIn K (.ref fP) = true)
    (pg : PySem.W.plainGet K CB Str.empty = true)
    (hd : PySem.W.hasDictIn K CB = true)
    (po : PySem.W.plainOver K CB = true)
    (sa : PySem.W.findIn K (.ref CB) "__setattr__" = some (some (.builtin "object.__setattr__")))
    (nr : PySem.W.findIn K (.ref CB) "chosen" = some none)
    (ha : PySem.W.findIn K (.ref CB) "__class__" = some (some (.builtin "object.__class__")))
    (hn : PySem.W.specialIn K (.builtin "object.__class__") "__get__" = some (some (.builtin "getset_descriptor.__get__")))
    (htk : PySem.W.takesIn K (.builtin "object.__class__") = some true)
    (hm : PySem.W.mroIn K CB (.type "object") = some true)
    (ne : PySem.W.findIn K (.ref CB) "__ne__" = some (some (.builtin "object.__ne__")))
    (icB : PySem.W.isClsIn K CB = true)
    (tyB : PySem.W.typeIn K (.ref CB) = some (.type "type"))
    (s0B : PySem.W.subIn K (.type "NoneType") (.ref CB) = some false)
    (s1B : PySem.W.subIn K (.type "bool") (.ref CB) = some false)
    (s2B : PySem.W.subIn K (.type "int") (.ref CB) = some false)
    (s3B : PySem.W.subIn K (.type "str") (.ref CB) = some false)
    (s4B : PySem.W.subIn K (.type "list") (.ref CB) = some false)
    (s5B : PySem.W.subIn K (.type "tuple") (.ref CB) = some false)
    (mk : PySem.W.makesIn K CB = true)
    (kB : PySem.W.keepIn K (.ref CB) = true)
    (lCE : K.lookup CE = some (PySem.excClassObj nmE qE CE nsE bsE bmE true snE subE abE colE ddE kE0 kE1 kE2 kE3 kE5 "ValueError.__new__"))
    (bmrE : PySem.HandSPX.refsVE bmE = true)
    (saE : PySem.W.findIn K (.ref CE) "__setattr__" = some (some (.builtin "object.__setattr__")))
    (exE : PySem.W.subIn K (.ref CE) (.type "BaseException") = some true)
    (tyE : PySem.W.typeIn K (.ref CE) = some (.type "type"))
    (kpE : PySem.W.keepIn K (.ref CE) = true)
    (noE : PySem.W.findIn K (.ref CE) "part" = some none)
    (tIE : PySem.W.typeIn K (.ref fE) = some (.type "function"))
    (gaE : PySem.W.findIn K (.ref CE) "__getattribute__" = some (some (.builtin "BaseException.__getattribute__")))
    (ggE : PySem.W.findIn K (.ref CE) "__getattr__" = some none)
    (hdE : PySem.W.hasDictIn K CE = true)
    (icE : PySem.W.isClsIn K CE = true)
    (ssE : PySem.W.subIn K (.ref CE) (.ref CE) = some true)
    (lCP : K.lookup CP = some (PySem.excClassObj nmP qP CP nsP bsP bmP true snP subP abP colP ddP kP0 kP1 kP2 kP3 kP5 "ValueError.__new__"))
    (bmrP : PySem.HandSPX.refsVE bmP = true)
    (saP : PySem.W.findIn K (.ref CP) "__setattr__" = some (some (.builtin "object.__setattr__")))
    (exP : PySem.W.subIn K (.ref CP) (.type "BaseException") = some true)
    (tyP : PySem.W.typeIn K (.ref CP) = some (.type "type"))
    (kpP : PySem.W.keepIn K (.ref CP) = true)
    (noP : PySem.W.findIn K (.ref CP) "value" = some none)
    (tIP : PySem.W.typeIn K (.ref fP) = some (.type "function"))
    (gaP : PySem.W.findIn K (.ref CP) "__getattribute__" = some (some (.builtin "BaseException.__getattribute__")))
    (ggP : PySem.W.findIn K (.ref CP) "__getattr__" = some none)
    (hdP : PySem.W.hasDictIn K CP = true)
    (icP : PySem.W.isClsIn K CP = true)
    (ssP : PySem.W.subIn K (.ref CP) (.ref CP) = some true)
    (sPE : PySem.W.subIn K (.ref CP) (.ref CE) = some false)
    (z1 : PySem.W.nsIn K mainGlobals "len" = some none)
    (z2 : PySem.W.nsIn K mainGlobals "isinstance" = some none)
    (z3 : PySem.W.nsIn K mainGlobals "str" = some none)
    (z4 : PySem.W.nsIn K mainGlobals "int" = some none)
    (z5 : PySem.W.nsIn K mainGlobals "range" = some none)
    (z6 : PySem.W.nsIn K mainGlobals "max" = some none)
    (z7 : PySem.W.nsIn K mainGlobals "min" = some none)
    (z8 : PySem.W.nsIn K mainGlobals "tuple" = some none)
    (z9 : PySem.W.nsIn K mainGlobals "list" = some none)
    (z10 : PySem.W.nsIn K mainGlobals "bool" = some none)
    (m1 : PySem.W.nsIn K mainGlobals "MOST_PLACES" = some (some (.int 3 tc1)))
    : ∃ fd : FuncData, (∀ (s : Shared) (v : Value), BindsTo s fd ⟨[v], []⟩ [("_law_script", v)]) ∧ ∀ base : Heap, K.In base → base.Ns mainGlobals mg → FnOk l.prog w K mg base CX0 6 fa fd ["_law_script"] (spLaw K) := by
  have e := hfa.symm.trans (PySem.W.mg_of X G a18)
  cases e
  have F1 := fun_mk (st := sIsWord) l1 c1 k1
  have b1 := F1.binds (ps := ["part", "value"]) fun _ _ _ _ _ _ us hl => match us, hl with | [_, _], _ => rfl
  have g1 := PySem.W.mg_of X G a1
  have F2 := fun_mk (st := sIndex) l2 c2 k2
  have b2 := F2.binds (ps := ["value", "many"]) fun _ _ _ _ _ _ us hl => match us, hl with | [_, _], _ => rfl
  have g2 := PySem.W.mg_of X G a2
  have F3 := fun_mk (st := sChkB) l3 c3 k3
  have b3 := F3.binds (ps := ["book"]) fun _ _ _ _ _ _ us hl => match us, hl with | [_], _ => rfl
  have g3 := PySem.W.mg_of X G a3
  have F4 := fun_mk (st := sChkP) l4 c4 k4
  have b4 := F4.binds (ps := ["places"]) fun _ _ _ _ _ _ us hl => match us, hl with | [_], _ => rfl
  have g4 := PySem.W.mg_of X G a4
  have F5 := fun_mk (st := sReason) l5 c5 k5
  have b5 := F5.binds (ps := ["book"]) fun _ _ _ _ _ _ us hl => match us, hl with | [_], _ => rfl
  have g5 := PySem.W.mg_of X G a5
  have F6 := fun_mk (st := sShapes) l6 c6 k6
  have b6 := F6.binds (ps := ["book", "places"]) fun _ _ _ _ _ _ us hl => match us, hl with | [_, _], _ => rfl
  have g6 := PySem.W.mg_of X G a6
  have F7 := fun_mk (st := sReasonOf) l7 c7 k7
  have b7 := F7.binds (ps := ["book"]) fun _ _ _ _ _ _ us hl => match us, hl with | [_], _ => rfl
  have g7 := PySem.W.mg_of X G a7
  have F8 := fun_mk (st := sLetBy) l8 c8 k8
  have b8 := F8.binds (ps := ["owner", "shape"]) fun _ _ _ _ _ _ us hl => match us, hl with | [_, _], _ => rfl
  have g8 := PySem.W.mg_of X G a8
  have F9 := fun_mk (st := sDraw) l9 c9 k9
  have b9 := F9.binds (ps := ["_law_script", "_law_k"]) fun _ _ _ _ _ _ us hl => match us, hl with | [_, _], _ => rfl
  have g9 := PySem.W.mg_of X G a9
  have F10 := fun_mk (st := sTake) l10 c10 k10
  have b10 := F10.binds (ps := ["_law_pool", "_law_many"]) fun _ _ _ _ _ _ us hl => match us, hl with | [_, _], _ => rfl
  have g10 := PySem.W.mg_of X G a10
  have F11 := fun_mk (st := sNewWords) l11 c11 k11
  have b11 := F11.binds (ps := ["_law_pool"]) fun _ _ _ _ _ _ us hl => match us, hl with | [_], _ => rfl
  have g11 := PySem.W.mg_of X G a11
  have F12 := fun_mk (st := sMade) l12 c12 k12
  have b12 := F12.binds (ps := ["_law_words"]) fun _ _ _ _ _ _ us hl => match us, hl with | [_], _ => rfl
  have g12 := PySem.W.mg_of X G a12
  have F13 := fun_mk (st := sLets) l13 c13 k13
  have b13 := F13.binds (ps := ["_law_owning", "_law_shape"]) fun _ _ _ _ _ _ us hl => match us, hl with | [_, _], _ => rfl
  have g13 := PySem.W.mg_of X G a13
  have F14 := fun_mk (st := sLShapes) l14 c14 k14
  have b14 := F14.binds (ps := ["_law_owning", "_law_places"]) fun _ _ _ _ _ _ us hl => match us, hl with | [_, _], _ => rfl
  have g14 := PySem.W.mg_of X G a14
  have F15 := fun_mk (st := sLReason) l15 c15 k15
  have b15 := F15.binds (ps := ["_law_words"]) fun _ _ _ _ _ _ us hl => match us, hl with | [_], _ => rfl
  have g15 := PySem.W.mg_of X G a15
  have F16 := fun_mk (st := sAskS) l16 c16 k16
  have b16 := F16.binds (ps := ["_law_book", "_law_places"]) fun _ _ _ _ _ _ us hl => match us, hl with | [_, _], _ => rfl
  have g16 := PySem.W.mg_of X G a16
  have F17 := fun_mk (st := sAskR) l17 c17 k17
  have b17 := F17.binds (ps := ["_law_book"]) fun _ _ _ _ _ _ us hl => match us, hl with | [_], _ => rfl
  have g17 := PySem.W.mg_of X G a17
  have F18 := fun_mk (st := sLaw) l18 c18 k18
  have FPo := fun_mk (st := mOwner) lPo cPo kPo
  have bPo := FPo.binds (ps := ["self"]) fun _ _ _ _ _ _ us hl => match us, hl with | [_], _ => rfl
  have FPl := fun_mk (st := mLook) lPl cPl kPl
  have bPl := FPl.binds (ps := ["self"]) fun _ _ _ _ _ _ us hl => match us, hl with | [_], _ => rfl
  have FPc := fun_mk (st := mChoose) lPc cPc kPc
  have bPc := FPc.binds (ps := ["self"]) fun _ _ _ _ _ _ us hl => match us, hl with | [_], _ => rfl
  have FPe := fun_mk (st := mEarly) lPe cPe kPe
  have bPe := FPe.binds (ps := ["self"]) fun _ _ _ _ _ _ us hl => match us, hl with | [_], _ => rfl
  have FMi := fun_mk (st := mInit) lMi cMi kMi
  have FMq := fun_mk (st := mEq) lMq cMq kMq
  have bMq := FMq.binds (ps := ["self", "other"]) fun _ _ _ _ _ _ us hl => match us, hl with | [_, _], _ => rfl
  have FE := fun_mk (st := mErr) lE cE kE
  have bE := FE.binds (ps := ["self", "part"]) fun _ _ _ _ _ _ us hl => match us, hl with | [_, _], _ => rfl
  have FP := fun_mk (st := mErrP) lP cP kP
  have bP := FP.binds (ps := ["self", "value"]) fun _ _ _ _ _ _ us hl => match us, hl with | [_, _], _ => rfl
  have T : Tx mg := ⟨PySem.W.mg_none_of X G z1, PySem.W.mg_none_of X G z2, PySem.W.mg_none_of X G z3, PySem.W.mg_none_of X G z4, PySem.W.mg_none_of X G z5, PySem.W.mg_none_of X G z6, PySem.W.mg_none_of X G z7, PySem.W.mg_none_of X G z8, PySem.W.mg_none_of X G z9, PySem.W.mg_none_of X G z10⟩
  have C : BF K mg CB := ⟨⟨pg, hd, po, sa⟩, nr, PySem.W.mg_of X G aB, ha, hn, htk, hm, kit_self⟩
  have KBk : KB K CB := ⟨kit_own icB tyB s0B, kit_own icB tyB s1B, kit_own icB tyB s2B, kit_own icB tyB s3B, kit_own icB tyB s4B, kit_own icB tyB s5B⟩
  have M : Mk K CB fMi := ⟨mk, atMi, fnMi, kB⟩
  have DD : WD K w D prts := ⟨es, nD, ⟨lD, kyD, loD⟩, ksD⟩
  have S : SWF K mg w D := ⟨PySem.W.mg_of X G aD, DD, fun p hp => by
    rcases prts_cases hp with rfl | rfl | rfl | rfl | rfl
    · exact ⟨T0, DD.get i0 rfl, fun H => (show optW "owner" = oW by decide +kernel) ▸ sqT_of lT0 zT0 vT0 H⟩
    · exact ⟨T1, DD.get i1 rfl, fun H => (show optW "look" = lW by decide +kernel) ▸ sqT_of lT1 zT1 vT1 H⟩
    · exact ⟨T2, DD.get i2 rfl, fun H => (show optW "choose" = cW by decide +kernel) ▸ sqT_of lT2 zT2 vT2 H⟩
    · exact ⟨T3, DD.get i3 rfl, fun H => (show optW "wants" = nW by decide +kernel) ▸ sqT_of lT3 zT3 vT3 H⟩
    · exact ⟨T4, DD.get i4 rfl, fun H => (show optW "early" = eW by decide +kernel) ▸ sqT_of lT4 zT4 vT4 H⟩⟩
  have Z : ShF K mg TS := ⟨PySem.W.mg_of X G aS, sqT_of lTS zTS vTS⟩
  have WE : EF K mg CE fE "InvalidBook" "part" := ⟨⟨⟨_, _, _, _, _, _, _, _, _, _, _, _, _, _, _, lCE, bmrE⟩, saE, exE, tyE, kpE⟩, noE, PySem.W.mg_of X G aE, atE, tIE⟩
  have XFE : XfC K CE := ⟨gaE, ggE, exE, hdE⟩
  have teE := exm_own exE icE tyE ssE
  have WP : EF K mg CP fP "InvalidPlaces" "value" := ⟨⟨⟨_, _, _, _, _, _, _, _, _, _, _, _, _, _, _, lCP, bmrP⟩, saP, exP, tyP, kpP⟩, noP, PySem.W.mg_of X G aP, atP, tIP⟩
  have XFP : XfC K CP := ⟨gaP, ggP, exP, hdP⟩
  have teP := exm_own exP icP tyP ssP
  have tPE := exm_own exE icE tyE sPE
  refine ⟨PySem.W.fnOf "law" "law" (defArgs sLaw) (defBody sLaw) (defScope sLaw) .none kV18 dc18 pm18 an18 cd18 ct18, fun s v => .of_eq rfl, fun base _ _ => ?_⟩
  have G1 : FnOk l.prog w K mg base CX0 1 f1 _ ["part", "value"] (spIsWord K) := ok_isWord F1 T S
  have GI := ok_init FMi C S g1 k1 b1 G1
  have RPo : PrG l.prog w K mg base CB "owner" qPo fPo _ := ⟨⟨atPo, gePo, tkPo, ⟨_, rcPo⟩⟩, bPo, ok_owner FPo C⟩
  have RPl : PrG l.prog w K mg base CB "look" qPl fPl _ := ⟨⟨atPl, gePl, tkPl, ⟨_, rcPl⟩⟩, bPl, ok_look FPl C⟩
  have RPc : PrG l.prog w K mg base CB "choose" qPc fPc _ := ⟨⟨atPc, gePc, tkPc, ⟨_, rcPc⟩⟩, bPc, ok_choose FPc C⟩
  have RPe : PrG l.prog w K mg base CB "early" qPe fPe _ := ⟨⟨atPe, gePe, tkPe, ⟨_, rcPe⟩⟩, bPe, ok_early FPe C⟩
  have GE : FnOk l.prog w K mg base CX0 1 fE _ ["self", "part"] (spErr CE "part") := ok_err FE WE
  have GP : FnOk l.prog w K mg base CX0 1 fP _ ["self", "value"] (spErr CP "value") := ok_errP FP WP
  have G3 := ok_chkB F3 T C WE bE GE
  have G2 : FnOk l.prog w K mg base CX0 1 f2 _ ["value", "many"] (spIndex K) := ok_index F2 T
  have G4 := ok_chkP F4 ⟨_, PySem.W.mg_of X G m1⟩ WP bP GP g2 k2 b2 G2
  have G5 := ok_reason F5 C RPl RPc RPe
  have G7 := ok_reasonOf F7 g3 k3 b3 G3 g5 k5 b5 G5
  have G8 : FnOk l.prog w K mg base CX0 1 f8 _ ["owner", "shape"] spLetBy := ok_letBy F8 
  have G6 := ok_shapes F6 T C Z RPo g3 k3 b3 G3 g4 k4 b4 G4 g8 k8 b8 G8
  have GQ : FnOk l.prog w K mg base CX0 1 fMq _ ["self", "other"] (spMEq CB) := ok_meq FMq T C
  have G9 : FnOk l.prog w K mg base CX0 1 f9 _ ["_law_script", "_law_k"] (spDraw K) := ok_draw F9 T
  have G10 : FnOk l.prog w K mg base CX0 1 f10 _ ["_law_pool", "_law_many"] spTake := ok_take F10 T
  have G11 := ok_newWords F11 g10 k10 b10 G10
  have hb : KBn K _ ["self", "owner", "look", "choose", "wants", "early"] 1 kw5 (fun us ws => us ++ ws) (fun vs zs => vs ++ zs) := ⟨fun s us ws _ l1 l2 => match us, ws, l1, l2 with | [_], [_, _, _, _, _], _, _ => (.of_eq rfl : BindsTo s (PySem.W.fnOf "__init__" "Book.__init__" (defArgs mInit) (defBody mInit) (defScope mInit) .none kVMi dcMi pmMi anMi cdMi ctMi) _ _), fun r1 r2 => r1.append r2⟩
  have G12 := ok_made F12 C M hb GI
  have G13 : FnOk l.prog w K mg base CX0 1 f13 _ ["_law_owning", "_law_shape"] (spLets K) := ok_lets F13 
  have G14 := ok_lShapes F14 T g13 k13 b13 G13
  have G15 : FnOk l.prog w K mg base CX0 1 f15 _ ["_law_words"] (spLReason K) := ok_lReason F15 
  have G16 := ok_askS F16 WE WP XFE XFP teE teP tPE g6 k6 b6 G6
  have G17 := ok_askR F17 WE XFE teE g7 k7 b7 G7
  exact ok_law F18 T KBk ⟨⟨atMq, fnMq⟩, ne, hm⟩ bMq GQ g9 k9 b9 G9 g10 k10 b10 G10 g11 k11 b11 G11 g12 k12 b12 G12 g14 k14 b14 G14 g6 k6 b6 G6 g16 k16 b16 G16 g17 k17 b17 G17 g15 k15 b15 G15
end K1
open PySem PySem.W PyProof.Rows
set_option maxRecDepth 100000 in
set_option maxHeartbeats 0 in
theorem PySem.Challenge.cw_soleinstances_k57_shapes_let_holds : PySem.Challenge.rw_soleinstances_k57_shapes_let.Holds := by
  w_on; o_law; k_head; (case hw => w_witness2)
  k_fill
  refine L2.walk_of (l := PySem.Challenge.rw_soleinstances_k57_shapes_let) (n := 63) (k := 6) (x := "_law_script") (CX := fun _ => L2.CX0) (sp := fun w => K1.spLaw _) rfl (by decide) rfl ⟨rfl, by decide, by decide⟩ (fun w h Y => PySem.W.kIn_of Y) ?F (fun _ _ a ns hl _ hS => ⟨a, ns, rfl, hS, hl, fun _ => rfl⟩) (fun _ _ _ _ _ h => h)
  case F =>
    intro w mg fa h KX G hmg
    refine' K1.all_mk KX G hmg ?a1 ?l1 ?c1 ?k1 ?a2 ?l2 ?c2 ?k2 ?a3 ?l3 ?c3 ?k3 ?a4 ?l4 ?c4 ?k4 ?a5 ?l5 ?c5 ?k5 ?a6 ?l6 ?c6 ?k6 ?a7 ?l7 ?c7 ?k7 ?a8 ?l8 ?c8 ?k8 ?a9 ?l9 ?c9 ?k9 ?a10 ?l10 ?c10 ?k10 ?a11 ?l11 ?c11 ?k11 ?a12 ?l12 ?c12 ?k12 ?a13 ?l13 ?c13 ?k13 ?a14 ?l14 ?c14 ?k14 ?a15 ?l15 ?c15 ?k15 ?a16 ?l16 ?c16 ?k16 ?a17 ?l17 ?c17 ?k17 ?a18 ?l18 ?c18 ?k18 ?aB ?aE ?aP ?aD ?aS ?lD ?kyD ?loD ?ksD ?i0 ?i1 ?i2 ?i3 ?i4 ?lT0 ?zT0 ?vT0 ?lT1 ?zT1 ?vT1 ?lT2 ?zT2 ?vT2 ?lT3 ?zT3 ?vT3 ?lT4 ?zT4 ?vT4 ?lTS ?zTS ?vTS ?atPo ?gePo ?tkPo ?rcPo ?lPo ?cPo ?kPo ?atPl ?gePl ?tkPl ?rcPl ?lPl ?cPl ?kPl ?atPc ?gePc ?tkPc ?rcPc ?lPc ?cPc ?kPc ?atPe ?gePe ?tkPe ?rcPe ?lPe ?cPe ?kPe ?atMi ?lMi ?cMi ?kMi ?fnMi ?atMq ?lMq ?cMq ?kMq ?fnMq ?atE ?lE ?cE ?kE ?atP ?lP ?cP ?kP ?pg ?hd ?po ?sa ?nr ?ha ?hn ?htk ?hm ?ne ?icB ?tyB ?s0B ?s1B ?s2B ?s3B ?s4B ?s5B ?mk ?kB ?lCE ?bmrE ?saE ?exE ?tyE ?kpE ?noE ?tIE ?gaE ?ggE ?hdE ?icE ?ssE ?lCP ?bmrP ?saP ?exP ?tyP ?kpP ?noP ?tIP ?gaP ?ggP ?hdP ?icP ?ssP ?sPE ?z1 ?z2 ?z3 ?z4 ?z5 ?z6 ?z7 ?z8 ?z9 ?z10 ?m1
    (case a1 => k_is)
    (case l1 => k_is)
    (case c1 => k_is)
    (case k1 => k_is)
    (case a2 => k_is)
    (case l2 => k_is)
    (case c2 => k_is)
    (case k2 => k_is)
    (case a3 => k_is)
    (case l3 => k_is)
    (case c3 => k_is)
    (case k3 => k_is)
    (case a4 => k_is)
    (case l4 => k_is)
    (case c4 => k_is)
    (case k4 => k_is)
    (case a5 => k_is)
    (case l5 => k_is)
    (case c5 => k_is)
    (case k5 => k_is)
    (case a6 => k_is)
    (case l6 => k_is)
    (case c6 => k_is)
    (case k6 => k_is)
    (case a7 => k_is)
    (case l7 => k_is)
    (case c7 => k_is)
    (case k7 => k_is)
    (case a8 => k_is)
    (case l8 => k_is)
    (case c8 => k_is)
    (case k8 => k_is)
    (case a9 => k_is)
    (case l9 => k_is)
    (case c9 => k_is)
    (case k9 => k_is)
    (case a10 => k_is)
    (case l10 => k_is)
    (case c10 => k_is)
    (case k10 => k_is)
    (case a11 => k_is)
    (case l11 => k_is)
    (case c11 => k_is)
    (case k11 => k_is)
    (case a12 => k_is)
    (case l12 => k_is)
    (case c12 => k_is)
    (case k12 => k_is)
    (case a13 => k_is)
    (case l13 => k_is)
    (case c13 => k_is)
    (case k13 => k_is)
    (case a14 => k_is)
    (case l14 => k_is)
    (case c14 => k_is)
    (case k14 => k_is)
    (case a15 => k_is)
    (case l15 => k_is)
    (case c15 => k_is)
    (case k15 => k_is)
    (case a16 => k_is)
    (case l16 => k_is)
    (case c16 => k_is)
    (case k16 => k_is)
    (case a17 => k_is)
    (case l17 => k_is)
    (case c17 => k_is)
    (case k17 => k_is)
    (case a18 => k_is)
    (case l18 => k_is)
    (case c18 => k_is)
    (case k18 => k_is)
    (case aB => k_is)
    (case aE => k_is)
    (case aP => k_is)
    (case aD => k_is)
    (case aS => k_is)
    (case lD => k_is)
    (case kyD => k_keys)
    (case loD => first | rfl | decide)
    (case ksD => first | rfl | decide +kernel)
    (case i0 => k_is)
    (case i1 => k_is)
    (case i2 => k_is)
    (case i3 => k_is)
    (case i4 => k_is)
    (case lT0 => k_is)
    (case zT0 => first | decide | exact (by decide +kernel))
    (case vT0 => repeat (first | exact Paired.nil | refine Paired.cons ⟨_, rfl⟩ ?_))
    (case lT1 => k_is)
    (case zT1 => first | decide | exact (by decide +kernel))
    (case vT1 => repeat (first | exact Paired.nil | refine Paired.cons ⟨_, rfl⟩ ?_))
    (case lT2 => k_is)
    (case zT2 => first | decide | exact (by decide +kernel))
    (case vT2 => repeat (first | exact Paired.nil | refine Paired.cons ⟨_, rfl⟩ ?_))
    (case lT3 => k_is)
    (case zT3 => first | decide | exact (by decide +kernel))
    (case vT3 => repeat (first | exact Paired.nil | refine Paired.cons ⟨_, rfl⟩ ?_))
    (case lT4 => k_is)
    (case zT4 => first | decide | exact (by decide +kernel))
    (case vT4 => repeat (first | exact Paired.nil | refine Paired.cons ⟨_, rfl⟩ ?_))
    (case lTS => k_is)
    (case zTS => first | decide | exact (by decide +kernel))
    (case vTS => repeat (first | exact Paired.nil | refine Paired.cons ⟨_, rfl⟩ ?_))
    (case atPo => k_is)
    (case gePo => k_is)
    (case tkPo => k_is)
    (case rcPo => k_is)
    (case lPo => k_is)
    (case cPo => k_is)
    (case kPo => k_is)
    (case atPl => k_is)
    (case gePl => k_is)
    (case tkPl => k_is)
    (case rcPl => k_is)
    (case lPl => k_is)
    (case cPl => k_is)
    (case kPl => k_is)
    (case atPc => k_is)
    (case gePc => k_is)
    (case tkPc => k_is)
    (case rcPc => k_is)
    (case lPc => k_is)
    (case cPc => k_is)
    (case kPc => k_is)
    (case atPe => k_is)
    (case gePe => k_is)
    (case tkPe => k_is)
    (case rcPe => k_is)
    (case lPe => k_is)
    (case cPe => k_is)
    (case kPe => k_is)
    (case atMi => k_is)
    (case lMi => k_is)
    (case cMi => k_is)
    (case kMi => k_is)
    (case fnMi => k_is)
    (case atMq => k_is)
    (case lMq => k_is)
    (case cMq => k_is)
    (case kMq => k_is)
    (case fnMq => k_is)
    (case atE => k_is)
    (case lE => k_is)
    (case cE => k_is)
    (case kE => k_is)
    (case atP => k_is)
    (case lP => k_is)
    (case cP => k_is)
    (case kP => k_is)
    (case pg => k_is)
    (case hd => k_is)
    (case po => k_is)
    (case sa => k_is)
    (case nr => k_is)
    (case ha => k_is)
    (case hn => k_is)
    (case htk => k_is)
    (case hm => k_is)
    (case ne => k_is)
    (case icB => k_is)
    (case tyB => k_is)
    (case s0B => k_is)
    (case s1B => k_is)
    (case s2B => k_is)
    (case s3B => k_is)
    (case s4B => k_is)
    (case s5B => k_is)
    (case mk => k_is)
    (case kB => k_is)
    (case lCE => k_is)
    (case bmrE => decide +kernel)
    (case saE => k_is)
    (case exE => k_is)
    (case tyE => k_is)
    (case kpE => k_is)
    (case noE => k_is)
    (case tIE => k_is)
    (case gaE => k_is)
    (case ggE => k_is)
    (case hdE => k_is)
    (case icE => k_is)
    (case ssE => k_is)
    (case lCP => k_is)
    (case bmrP => decide +kernel)
    (case saP => k_is)
    (case exP => k_is)
    (case tyP => k_is)
    (case kpP => k_is)
    (case noP => k_is)
    (case tIP => k_is)
    (case gaP => k_is)
    (case ggP => k_is)
    (case hdP => k_is)
    (case icP => k_is)
    (case ssP => k_is)
    (case sPE => k_is)
    (case z1 => k_is)
    (case z2 => k_is)
    (case z3 => k_is)
    (case z4 => k_is)
    (case z5 => k_is)
    (case z6 => k_is)
    (case z7 => k_is)
    (case z8 => k_is)
    (case z9 => k_is)
    (case z10 => k_is)
    (case m1 => k_is)
#print axioms PySem.Challenge.cw_soleinstances_k57_shapes_let_holds
