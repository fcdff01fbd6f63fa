import PyProof.Rows.All
import Wide.All
import OpenK.AllK
import Wide.FinOn
import HandS.ForMost
import HandS.ForExc
import HandS.More
import HandS.Walk
import HandS.HeadHook3
import HandS.TryMany
import HandS.StrMore
import HandS.IsInst
import HandS.TupLe
import HandS.Property
import HandS.DictComp
import HandS.Deep
import HandS.TupAny
import HandS.Conv
import HandS.ExcInit
import HandS.ExcField
import HandS.Star
import HandS.MakeKwOnly
import HandS.Strs
import HandS.DictEq
import HandS.TupMul
import HandS.Zip
import HandS.Style
import HandS.WordsDict
import KE.GoesEnum
import HandS.Head0
import HandS.Head1
import HandS.Head2
import HandS.HeadHook1
import HandS.HeadHook3
import PySem.Challenge.RW_soleinstances_k60_bent_papers_of_soundne
set_option Elab.async false
set_option linter.all false
set_option maxRecDepth 100000
set_option maxHeartbeats 4000000
/-! The keys of a written dict with text keys, walked. -/
namespace Bk
open PySem PySem.Spec PyProof.Rows L2
/-- the text of a key -/
def keyTx (e : DictEntry) : Option Str := match e.key with
  | .str x _ => some x
  | _ => none
/-- at d: a written dict with the texts ks as keys, in order -/
def WD (K : PySem.W.Frag) (w : World) (d : Addr) (ks : List Str) : Prop := ∃ es n, KDict K w d es n ∧ es.toList.map keyTx = ks.map some
theorem keyTx_some {e : DictEntry} {k : Str} (h : keyTx e = some k) : ∃ t, e.key = .str k t := by
  unfold keyTx at h
  split at h
  · rename_i x t q
    cases h
    exact ⟨t, q⟩
  · cases h
theorem keys_size {es : Array DictEntry} {ks : List Str} (h : es.toList.map keyTx = ks.map some) : es.size = ks.length := by
  have := congrArg List.length h
  simpa using this
theorem keys_at {es : Array DictEntry} {ks : List Str} (h : es.toList.map keyTx = ks.map some) {i : Nat} {k : Str} (hk : ks[i]? = some k) : ∃ en t, es[i]? = some en ∧ en.key = .str k t := by
  have h1 := congrArg (fun l : List (Option Str) => l[i]?) h
  simp only [List.getElem?_map, hk, Option.map_some] at h1
  cases e : es.toList[i]? with
  | none =>
    rw [e] at h1
    cases h1
  | some en =>
    rw [e] at h1
    simp only [Option.map_some, Option.some.injEq] at h1
    obtain ⟨t, q⟩ := keyTx_some h1
    refine ⟨en, t, ?_, q⟩
    rw [← Array.getElem?_toList]
    exact e
/-- the keys ks, in order -/
def Itw (ks : List Str) : It := ⟨fun i _ => i < ks.length, fun i H x H' => H' = H ∧ ∃ k, ks[i]? = some k ∧ x = .str k, fun i _ => ks.length ≤ i⟩
theorem turn_wkeys {P : Program} {w : World} {K : PySem.W.Frag} {tg : Expr} {d : Addr} {es : Array DictEntry} {ep : Nat} {ks : List Str} (it : Addr) (hl : K.lookup d = some ⟨.type "dict", none, .dict es ep, #[]⟩) (hk : es.toList.map keyTx = ks.map some) :
    Turn P w K tg (Itw ks) [it] it (fun i h => h.IsKeyIter it d i ks.length ep) where
  mem := by simp
  obj := fun i h st b hb => by
    have e : b = it := by simpa using hb
    subst e
    obtain ⟨oi, e, c, dd⟩ := st
    exact ⟨oi, e, fun v z => by rw [dd] at z; cases z⟩
  keep := fun i h h' st k => st.at fun oi e => k it (by simp) oi e
  item := by
    intro X hP hw hK hc i pins s σ H E I hf st hg
    subst hP hw hK
    obtain ⟨f0, f1, f2, f3, f4, f5⟩ := hf it (by simp)
    have hg' : i < ks.length := hg
    obtain ⟨k, hkk⟩ : ∃ k, ks[i]? = some k := ⟨ks[i], List.getElem?_eq_getElem hg'⟩
    obtain ⟨en, t, hen, hkey⟩ := keys_at hk hkk
    have hod := I.kIn _ _ hl
    refine next_key_item st hod rfl (keys_size hk) hen fun h' st' sb => ?_
    have I1 : Inv X pins σ H { s with heap := h' } := I.turned (t' := s.toks) (fun b ob hb e => (sb.2 b hb).trans e) f0 f1 f3 f4 f5
    obtain ⟨oi, e, c, dd⟩ := id st'
    refine ⟨en.key, rfl, go_of (s := { s with heap := h' }) e c dd (by decide) ⟨.str k, H, I1, ⟨t, hkey⟩, ⟨rfl, k, hkk, rfl⟩, st', fun b hb => (hf b hb).1⟩⟩
  done := by
    intro X hP hw hK hc i pins s σ H E I hf st hg
    subst hP hw hK
    obtain ⟨f0, f1, f2, f3, f4, f5⟩ := hf it (by simp)
    have hod := I.kIn _ _ hl
    exact next_key_end (I.ok.hd hc) st hod rfl (keys_size hk) hg fun h' eb => ⟨rfl, I.turned (t' := s.toks) (fun b ob hb e => eb b ob hb e) f0 f1 f3 f4 f5⟩
  self := fun A i s Q E st h => wpAny_pyIter_keyiter st h
def iW (K : PySem.W.Frag) (w : World) (td : TE) : TI := fun σ H R => td σ H fun x H1 => ∃ d ks, x = .ref d ∧ WD K w d ks ∧ R (Itw ks) H1
theorem pi_wkeys {X : Cx} {tg e : Expr} {td : TE} (he : PE X e td) : PI X tg e (iW X.K X.w td) := by
  refine ⟨fun pins s σ H R I h => ?_⟩
  refine thn (he.run pins s σ H _ I h) fun u s1 ⟨x, H1, I1, rx, d, ks, ex, ⟨es, n, D, hk⟩, q⟩ => ?_
  subst ex
  obtain rfl : u = Value.ref d := rx
  have hod := I1.kIn _ _ D.at_
  refine iter_keys D.low hod ⟨rfl, rfl, rfl⟩ rfl (pi_one (tk := s1.toks) I1 _ (turn_wkeys _ D.at_ hk) ⟨_, Heap.get?_push_size _ rfl, rfl, ?_⟩ q)
  rw [keys_size hk] <;> rfl
theorem walk_w {ks : List Str} : Walk (Itw ks) ks.length (fun _ => True) (fun i H x H' => H' = H ∧ ∃ k, ks[i]? = some k ∧ x = .str k) :=
  ⟨fun _ _ hi _ => hi, fun _ _ => Nat.le_refl _, fun _ _ _ _ _ _ y => y⟩
/-- the value of a written dict at a text -/
theorem WD.get {K : PySem.W.Frag} {w : World} {d : Addr} {ks : List Str} {z : Str} {u : Value} {v : V} (D : WD K w d ks) (e : PySem.W.nsIn K d z = some (some u)) (r : RelV v u) : KDct K w d z v := by
  obtain ⟨es, n, D, _⟩ := D
  exact ⟨es, n, u, D.at_, D.lit, e, r⟩
end Bk
/-! The reading of a comprehension with two for. -/
namespace Tk
open PySem PySem.Spec PyProof.Rows L2
theorem in_tup {K : PySem.W.Frag} {b : Addr} {ys : List V} {g1 : TG} {tt1 : TT} {te : TE} {vs1 : List Nat} {σ2 : L2.St} {H4 : Hp} {D : Addr} {Nx : Hp → Prop} (Pv : Nat → Hp → Prop) (h0 : Pv 0 H4) (hl : ∀ j H, j ≤ ys.length → Pv j H → SqT K H b ys)
    (hs : ∀ j x H, ys[j]? = some x → Pv j H → g1 x (wipe σ2 vs1) H fun σ3 H5 => wipe σ3 vs1 = wipe σ2 vs1 ∧ tt1 σ3 H5 fun c H6 =>
      if c = true then te σ3 H6 fun y H7 => ∃ acc, H7 D = some (.lst acc) ∧ acc.length < sizeLine ∧ Pv (j + 1) (upd H7 D (.lst (acc ++ [y]))) else Pv (j + 1) H6) (hd : ∀ H, Pv ys.length H → Nx H) :
    ∃ W1 : Nat → Nat → Hp → Prop, (∃ m, W1 0 m H4) ∧ ∀ j k H, W1 j k H →
      ((Itt K b).stop j H ∧ Nx H) ∨ ((Itt K b).go j H ∧ ∃ Nx1 : Hp → Prop, (∀ H', Nx1 H' → ∃ k', k' < k ∧ W1 (j + 1) k' H') ∧ ∀ x H', (Itt K b).yld j H x H' → g1 x (wipe σ2 vs1) H' fun σ3 H5 => wipe σ3 vs1 = wipe σ2 vs1 ∧ tt1 σ3 H5 fun b H6 =>
        if b = true then te σ3 H6 fun y H7 => ∃ acc, H7 D = some (.lst acc) ∧ acc.length < sizeLine ∧ Nx1 (upd H7 D (.lst (acc ++ [y]))) else Nx1 H6) := by
  refine ⟨fun j m H => m = ys.length - j ∧ j ≤ ys.length ∧ Pv j H, ⟨ys.length, by simp, Nat.zero_le _, h0⟩, ?_⟩
  rintro j m H ⟨rfl, hj, p⟩
  have q := hl j H hj p
  by_cases lt : j < ys.length
  · refine .inr ⟨⟨ys, ys[j], q, by simp [lt]⟩, Pv (j + 1), fun H' p' => ⟨ys.length - (j + 1), by omega, rfl, lt, p'⟩, fun x H' y => ?_⟩
    obtain ⟨e, y⟩ := y
    subst e
    exact hs j x _ (y ys q) p
  · have e : j = ys.length := by omega
    subst e
    exact .inl ⟨⟨ys, q, Nat.le_refl _⟩, hd H p⟩
theorem lc2_list {K : PySem.W.Frag} {a : Addr} {xs : List V} {g : TG} {tt : TT} {wi1 : TI} {g1 : TG} {tt1 : TT} {te : TE} {vs vs1 : List Nat} {σ : L2.St} {H1 : Hp} {D : Addr} {Qd : Hp → Prop} (Pv : Nat → Hp → Prop) (h0 : Pv 0 (upd H1 D (.lst []))) (hl : ∀ i H, i ≤ xs.length → Pv i H → SqL K H a xs)
    (hs : ∀ i x H, xs[i]? = some x → Pv i H → g x (wipe σ vs) H fun σ2 H2 => wipe σ2 vs = wipe σ vs ∧ tt σ2 H2 fun b H3 =>
      if b = true then wi1 σ2 H3 fun J1 H4 => ∃ W1 : Nat → Nat → Hp → Prop, (∃ m, W1 0 m H4) ∧ ∀ j k H, W1 j k H →
      (J1.stop j H ∧ Pv (i + 1) H) ∨ (J1.go j H ∧ ∃ Nx1 : Hp → Prop, (∀ H', Nx1 H' → ∃ k', k' < k ∧ W1 (j + 1) k' H') ∧ ∀ x H', J1.yld j H x H' → g1 x (wipe σ2 vs1) H' fun σ3 H5 => wipe σ3 vs1 = wipe σ2 vs1 ∧ tt1 σ3 H5 fun b H6 =>
        if b = true then te σ3 H6 fun y H7 => ∃ acc, H7 D = some (.lst acc) ∧ acc.length < sizeLine ∧ Nx1 (upd H7 D (.lst (acc ++ [y]))) else Nx1 H6) else Pv (i + 1) H3) (hd : ∀ H, Pv xs.length H → Qd H) :
    ∃ W : Nat → Nat → Hp → Prop, (∃ m, W 0 m (upd H1 D (.lst []))) ∧ ∀ i m H, W i m H →
      ((Itl K a).stop i H ∧ Qd H) ∨ ((Itl K a).go i H ∧ ∃ Nx : Hp → Prop, (∀ H', Nx H' → ∃ m', m' < m ∧ W (i + 1) m' H') ∧ ∀ x H', (Itl K a).yld i H x H' → g x (wipe σ vs) H' fun σ2 H2 => wipe σ2 vs = wipe σ vs ∧ tt σ2 H2 fun b H3 =>
        if b = true then wi1 σ2 H3 fun J1 H4 => ∃ W1 : Nat → Nat → Hp → Prop, (∃ m, W1 0 m H4) ∧ ∀ j k H, W1 j k H →
      (J1.stop j H ∧ Nx H) ∨ (J1.go j H ∧ ∃ Nx1 : Hp → Prop, (∀ H', Nx1 H' → ∃ k', k' < k ∧ W1 (j + 1) k' H') ∧ ∀ x H', J1.yld j H x H' → g1 x (wipe σ2 vs1) H' fun σ3 H5 => wipe σ3 vs1 = wipe σ2 vs1 ∧ tt1 σ3 H5 fun b H6 =>
        if b = true then te σ3 H6 fun y H7 => ∃ acc, H7 D = some (.lst acc) ∧ acc.length < sizeLine ∧ Nx1 (upd H7 D (.lst (acc ++ [y]))) else Nx1 H6) else Nx H3) := by
  refine ⟨fun i m H => m = xs.length - i ∧ i ≤ xs.length ∧ Pv i H, ⟨xs.length, by simp, Nat.zero_le _, h0⟩, ?_⟩
  rintro i m H ⟨rfl, hi, p⟩
  have q := hl i H hi p
  by_cases lt : i < xs.length
  · refine .inr ⟨⟨xs, xs[i], q, by simp [lt]⟩, Pv (i + 1), fun H' p' => ⟨xs.length - (i + 1), by omega, rfl, lt, p'⟩, fun x H' y => ?_⟩
    obtain ⟨e, y⟩ := y
    subst e
    exact hs i x _ (y xs q) p
  · have e : i = xs.length := by omega
    subst e
    exact .inl ⟨⟨xs, q, Nat.le_refl _⟩, hd H p⟩
theorem lc2_tup {K : PySem.W.Frag} {a : Addr} {xs : List V} {g : TG} {tt : TT} {wi1 : TI} {g1 : TG} {tt1 : TT} {te : TE} {vs vs1 : List Nat} {σ : L2.St} {H1 : Hp} {D : Addr} {Qd : Hp → Prop} (Pv : Nat → Hp → Prop) (h0 : Pv 0 (upd H1 D (.lst []))) (hl : ∀ i H, i ≤ xs.length → Pv i H → SqT K H a xs)
    (hs : ∀ i x H, xs[i]? = some x → Pv i H → g x (wipe σ vs) H fun σ2 H2 => wipe σ2 vs = wipe σ vs ∧ tt σ2 H2 fun b H3 =>
      if b = true then wi1 σ2 H3 fun J1 H4 => ∃ W1 : Nat → Nat → Hp → Prop, (∃ m, W1 0 m H4) ∧ ∀ j k H, W1 j k H →
      (J1.stop j H ∧ Pv (i + 1) H) ∨ (J1.go j H ∧ ∃ Nx1 : Hp → Prop, (∀ H', Nx1 H' → ∃ k', k' < k ∧ W1 (j + 1) k' H') ∧ ∀ x H', J1.yld j H x H' → g1 x (wipe σ2 vs1) H' fun σ3 H5 => wipe σ3 vs1 = wipe σ2 vs1 ∧ tt1 σ3 H5 fun b H6 =>
        if b = true then te σ3 H6 fun y H7 => ∃ acc, H7 D = some (.lst acc) ∧ acc.length < sizeLine ∧ Nx1 (upd H7 D (.lst (acc ++ [y]))) else Nx1 H6) else Pv (i + 1) H3) (hd : ∀ H, Pv xs.length H → Qd H) :
    ∃ W : Nat → Nat → Hp → Prop, (∃ m, W 0 m (upd H1 D (.lst []))) ∧ ∀ i m H, W i m H →
      ((Itt K a).stop i H ∧ Qd H) ∨ ((Itt K a).go i H ∧ ∃ Nx : Hp → Prop, (∀ H', Nx H' → ∃ m', m' < m ∧ W (i + 1) m' H') ∧ ∀ x H', (Itt K a).yld i H x H' → g x (wipe σ vs) H' fun σ2 H2 => wipe σ2 vs = wipe σ vs ∧ tt σ2 H2 fun b H3 =>
        if b = true then wi1 σ2 H3 fun J1 H4 => ∃ W1 : Nat → Nat → Hp → Prop, (∃ m, W1 0 m H4) ∧ ∀ j k H, W1 j k H →
      (J1.stop j H ∧ Nx H) ∨ (J1.go j H ∧ ∃ Nx1 : Hp → Prop, (∀ H', Nx1 H' → ∃ k', k' < k ∧ W1 (j + 1) k' H') ∧ ∀ x H', J1.yld j H x H' → g1 x (wipe σ2 vs1) H' fun σ3 H5 => wipe σ3 vs1 = wipe σ2 vs1 ∧ tt1 σ3 H5 fun b H6 =>
        if b = true then te σ3 H6 fun y H7 => ∃ acc, H7 D = some (.lst acc) ∧ acc.length < sizeLine ∧ Nx1 (upd H7 D (.lst (acc ++ [y]))) else Nx1 H6) else Nx H3) := by
  refine ⟨fun i m H => m = xs.length - i ∧ i ≤ xs.length ∧ Pv i H, ⟨xs.length, by simp, Nat.zero_le _, h0⟩, ?_⟩
  rintro i m H ⟨rfl, hi, p⟩
  have q := hl i H hi p
  by_cases lt : i < xs.length
  · refine .inr ⟨⟨xs, xs[i], q, by simp [lt]⟩, Pv (i + 1), fun H' p' => ⟨xs.length - (i + 1), by omega, rfl, lt, p'⟩, fun x H' y => ?_⟩
    obtain ⟨e, y⟩ := y
    subst e
    exact hs i x _ (y xs q) p
  · have e : i = xs.length := by omega
    subst e
    exact .inl ⟨⟨xs, q, Nat.le_refl _⟩, hd H p⟩
end Tk
/-! Tuples that are known to have no dict of their own: their methods. -/
namespace Bk
open PySem PySem.Spec PyProof.Rows L2
def TupF (H : Hp) (p : Addr) (xs : List V) : Prop := ∃ o : Obj, H p = some (.frz o (.tup xs)) ∧ o.dict = none
theorem TupF.sq {K : PySem.W.Frag} {H : Hp} {p : Addr} {xs : List V} (h : TupF H p xs) : SqT K H p xs := let ⟨o, e, _⟩ := h; .inl (.inr ⟨o, e⟩)
theorem TupF.ty {K : PySem.W.Frag} {H : Hp} {p : Addr} {xs : List V} (h : TupF H p xs) : TyX K H (.ref p) (.type "tuple") := let ⟨_, e, _⟩ := h; .fTuple e
theorem TupF.same {H H' : Hp} {p : Addr} {xs : List V} (h : TupF H p xs) (s : Same H H') : TupF H' p xs := let ⟨o, e, d⟩ := h; ⟨o, s _ _ e, d⟩
def tTupF (t : TA) : TE := fun σ H Q => t σ H fun xs H1 => xs.length ≤ sizeLine ∧ ∀ (p : Addr) (o : Obj), H1 p = none → o.dict = none → Q (.ref p) (upd H1 p (.frz o (.tup xs)))
section
variable {X : Cx} {es : List Expr} {e : Expr} {t : TA} {pos apos cpos : Pos}
theorem pe_tupF {x1} (h : PA X es t) : PE X (.Tuple es x1 pos) (tTupF t) := by
  refine ⟨fun pins s σ H Q I hq => ?_⟩
  refine wpAny_Tuple_spliced (thn (h.run pos pins s σ H _ I hq) fun us s1 ⟨xs, H1, I1, r, z, q⟩ => ⟨by rw [← r.length]; exact z, ?_⟩)
  have hf : H1 s1.heap.objs.size = none := I1.hok.fresh (Nat.le_refl _)
  refine ⟨.ref s1.heap.objs.size, _, I1.laid (t' := s1.toks) (o := .frz _ (.tup xs)) (fun b u e => Heap.get?_push_of_some _ e) (Nat.le_refl _) ⟨Heap.get?_push_size _ rfl, z, us, r, ⟨_, Heap.get?_push_size _ rfl, rfl, _, rfl⟩⟩, rfl, q _ _ hf rfl⟩
def tBMF (r : V → List V → Hp → VK → Prop) (to : TE) (t : TA) : TE := fun σ H Q => to σ H fun x H1 => (∃ p xs, x = .ref p ∧ TupF H1 p xs) ∧ t σ H1 fun xs H2 => r x xs H2 Q
variable {o : Expr} {to : TE} {name : Str} {id : String} {r : V → List V → Hp → VK → Prop}
theorem pe_bmF (pa : PlainAttrs "tuple") (slot : Slot "tuple" name id) (hty : typeOf (.builtin id) = pure (.type "method_descriptor")) (hm : MtR X id r) (ho : PE X o to) (ha : PA X (e :: es) t)
    (hbase : attributeBase o name X.env (eval o X.env) = eval o X.env := by rfl)
    (hfew : ((backTo cpos (starEach (e :: es) X.env)).all (fun x => !x.1) && (backToKw cpos (keywordEach [] X.env)).all (fun x => x.1.isSome)
      && decide ((e :: es).length + ([] : List Keyword).length + (if ([] : List Keyword).isEmpty then 0 else 1) < 30)) = true := by rfl)
    (hline : (apos.endLine == cpos.line) = true := by rfl) (hs : starEach (e :: es) X.env = (false, eval e X.env) :: starEach es X.env := by rfl) (hplain : (backTo cpos (starEach es X.env)).any (·.1) = false := by rfl) :
    PE X (.Call (.Attribute o name apos) (e :: es) [] cpos) (tBMF r to t) := by
  refine ⟨fun pins s σ H Q I h => ?_⟩
  refine wpAny_Call_method_late hbase hfew hline rfl (thn (ho.run pins s σ H _ I h) fun v s1 ⟨x, H1, I1, r1, ⟨p, xs, ex, ob, eo, dn⟩, q1⟩ => ?_)
  subst ex
  obtain rfl : v = Value.ref p := r1
  obtain ⟨hget, _, its, _, o2, h2, hc, _⟩ : ObjOk X.prog X.w H1 s1.heap p (.frz ob (.tup xs)) := I1.hok p _ eo
  have e2 : o2 = ob := by
    rw [hget] at h2
    exact (Option.some.inj h2).symm
  subst e2
  refine ⟨"tuple", id, pa, slot, hty, ⟨o2, hget, hc⟩, fun a ea => ?_, ?_⟩
  · injection ea with ea
    subst ea
    exact ⟨o2, hget, dn⟩
  have hA := ha.run cpos pins s1 σ H1 _ I1 q1
  rw [hs] at hA ⊢
  refine Calls.callWith_builtin (by show (false || (backTo cpos (starEach es X.env)).any (·.1)) = false; rw [hplain] <;> rfl) (Calls.evalArgs_plain ?_)
  exact thn hA fun us s2 ⟨vs, H2, I2, r2, q2⟩ => hm pins s2 σ H2 (.ref p) vs _ us Q I2 rfl r2 q2
end
end Bk
/-! Own special methods of an own class, by their promises. -/
namespace Ow
open PySem PySem.Spec PyProof.Rows L2
section
variable {X : Cx} {CX : CXT} {k : Nat} {C f : Addr} {fd : FuncData} {ps : List Str} {sp : Sp} {E : XK}
/-- a def run somewhere below the body -/
theorem run_at {B : Around} {pins : List (Addr × Obj)} {σ : L2.St} {H : Hp} {s : Shared} {Q : VK} {us : List Value} {vs : List V} (F : FnOk X.prog X.w X.K X.mg X.base CX k f fd ps sp) (hr : Room k B) (fr : B.frames = X.A.frames) (hb : Binds X.K fd ps []) (hx : Passes CX X E)
    (I : Inv X pins σ H s) (r : Vals vs us) (h : sp vs H Q E) : wpAny (model X.prog X.w) B (call (.ref f) us) (EP X pins σ Q) X.xe s := by
  have e := I.env0
  have e1 : Env0 X.prog X.w X.K X.mg X.base B X.stack s H := { e with frames := fr.trans e.frames }
  have hl : us.length = ps.length := r.length.symm.trans (F.len _ _ _ _ h)
  have b1 := hb s us I.kIn ((congrArg List.length (List.append_nil us)).trans hl)
  rw [List.append_nil] at b1
  refine wpAny_call (codeAny_mono (F.run B X.stack s H ⟨us, []⟩ us vs Q E hr e1 b1 r h) fun res s2 q => ?_)
  match res, q with
  | .error er, q => exact hx pins σ H s er s2 I q
  | .ok (.ret _), q => exact I.after q
/-- what the library's rules ask of an instance -/
theorem inst {pins : List (Addr × Obj)} {σ : L2.St} {H : Hp} {s : Shared} {a dx : Addr} {fs : List (Str × V)} (I : Inv X pins σ H s) (e : H a = some (.ins C dx fs)) : ∃ od, PySem.W.InstAt s.heap a (PySem.W.instObj C dx) C (some od) := by
  obtain ⟨mA, J, _⟩ := ins_get I.hok e
  obtain ⟨od, J2, _⟩ := J.look
  exact ⟨od, J2⟩
/-- an own method by its name -/
structure Spc (K : PySem.W.Frag) (C f : Addr) (m : Str) : Prop where
  at_ : PySem.W.findIn K (.ref C) m = some (some (.ref f))
  fn : PySem.W.isFn K (.ref f) = true
def rLenO (C : Addr) (sp : Sp) (E : XK) : List V → Hp → VK → Prop := fun xs H Q => ∃ a dx fs, xs = [.ref a] ∧ H a = some (.ins C dx fs) ∧ sp [.ref a] H (fun v H2 => ∃ n : Int, v = .int n ∧ 0 ≤ n ∧ n < 2 ^ 63 ∧ Q (.int n) H2) E
theorem call_lenO (S : Spc X.K C f "__len__") (F : FnOk X.prog X.w X.K X.mg X.base CX k f fd ps sp) (hr : Room (k + 1) X.A) (hb : Binds X.K fd ps []) (hx : Passes CX X E) : CallR X (.builtin "len") (rLenO C sp E) := by
  intro pins s σ H xs us Q I r h
  obtain ⟨a, dx, fs, rfl, ea, h⟩ := h
  obtain ⟨u, rfl, rx⟩ := vals1 r
  cases rx
  obtain ⟨od, J⟩ := inst I ea
  obtain ⟨m, hF⟩ := I.fr
  refine PySem.W.len_K hF I.ok.mod.kin J S.at_ S.fn (thn (run_at F hr.in1 rfl hb hx I r h) fun v s2 hv => ?_)
  obtain ⟨x, H2, I2, rx, n, rfl, h0, h1, q⟩ := hv
  obtain ⟨t, rfl⟩ := rx
  exact ⟨⟨h0, h1⟩, .int n, H2, I2.tok _, ⟨_, rfl⟩, q⟩
def rStrO (C : Addr) (sp : Sp) (E : XK) : List V → Hp → VK → Prop := fun xs H Q => ∃ a dx fs, xs = [.ref a] ∧ H a = some (.ins C dx fs) ∧ sp [.ref a] H (fun v H2 => ∃ z : Str, v = .str z ∧ Q (.str z) H2) E
theorem call_strO (S : Spc X.K C f "__str__") (F : FnOk X.prog X.w X.K X.mg X.base CX k f fd ps sp) (hr : Room (k + 2) X.A) (hb : Binds X.K fd ps []) (hx : Passes CX X E) : CallR X (.type "str") (rStrO C sp E) := by
  intro pins s σ H xs us Q I r h
  obtain ⟨a, dx, fs, rfl, ea, h⟩ := h
  obtain ⟨u, rfl, rx⟩ := vals1 r
  cases rx
  obtain ⟨od, J⟩ := inst I ea
  refine PySem.W.kso_call hr.in1.in1.units0 I.kIn J S.at_ S.fn (thn (run_at F hr.in1.in1 rfl hb hx I r h) fun v s2 hv => ?_)
  obtain ⟨x, H2, I2, rx, z, rfl, q⟩ := hv
  obtain ⟨t, rfl⟩ := rx
  exact ⟨.str z, H2, I2, ⟨_, rfl⟩, q⟩
/-- x in an instance -/
def rInO (C : Addr) (sp : Sp) (E : XK) : R2 := fun x y H Q => ∃ a dx fs, y = .ref a ∧ H a = some (.ins C dx fs) ∧ sp [.ref a, x] H (fun v H2 => ∃ b, v = .bl b ∧ Q (.bl b) H2) E
theorem op_inO (S : Spc X.K C f "__contains__") (F : FnOk X.prog X.w X.K X.mg X.base CX k f fd ps sp) (hr : Room k X.A) (hb : Binds X.K fd ps []) (hx : Passes CX X E) : OpR X (compareOp .In) (rInO C sp E) := by
  intro pins s σ H x y v u Q I rx ry h
  obtain ⟨a, dx, fs, rfl, ea, h⟩ := h
  cases ry
  obtain ⟨od, J⟩ := inst I ea
  obtain ⟨m, hF⟩ := I.fr
  refine PySem.W.in_K hF I.ok.mod.kin J S.at_ S.fn (thn (run_at (vs := [.ref a, x]) F hr rfl hb hx I (.cons rfl (.cons rx .nil)) h) fun w s2 hv => ?_)
  obtain ⟨z, H2, I2, rz, b, rfl, q⟩ := hv
  cases rz
  exact wpAny_truthy_bool ⟨.bl b, H2, I2, rfl, q⟩
/-- instance[i] -/
def tSubO (C : Addr) (sp : Sp) (E : XK) (ta tb : TE) : TE := fun σ H Q => ta σ H fun x H1 => tb σ H1 fun y H2 => ∃ a dx fs, x = .ref a ∧ H2 a = some (.ins C dx fs) ∧ sp [.ref a, y] H2 Q E
theorem pe_subO {a b : Expr} {ta tb : TE} {pos : Pos} (S : Spc X.K C f "__getitem__") (hfn : PySem.W.fnIn X.K f = true) (F : FnOk X.prog X.w X.K X.mg X.base CX k f fd ps sp) (hr : Room (k + 1) X.A) (hb : Binds X.K fd ps []) (hx : Passes CX X E) (he : PE X a ta) (hi : PE X b tb)
    (hs : ∀ x i, subscripted b true (.ref x) i = runValue (.builtin "lifetime.subscript" ⟨[.ref x, i], []⟩) := by intro _ _; with_unfolding_all rfl) : PE X (.Subscript a b pos) (tSubO C sp E ta tb) := by
  refine ⟨fun pins s σ H Q I h => Subscript_ (binT he hi I h fun v u s2 x y H2 I2 rx ry h2 => ?_)⟩
  obtain ⟨p, dx, fs, rfl, ea, h2⟩ := h2
  cases rx
  obtain ⟨od, J⟩ := inst I2 ea
  obtain ⟨m, hF⟩ := I2.fr
  exact PySem.W.sub_K hF I2.ok.mod.kin J S.at_ hfn S.fn (run_at (vs := [.ref p, y]) F hr.in1 rfl hb hx I2 (.cons rfl (.cons ry .nil)) h2) (hs _ _)
/-- the type of the other side, as == asks for it -/
def Oth (X : Cx) (C : Addr) (H : Hp) (y : V) : Prop := (∃ b dy gs, y = .ref b ∧ H b = some (.ins C dy gs)) ∨ ((∃ z, y = .str z) ∧ PySem.W.subIn X.K (.type "str") (.ref C) = some false) ∨ (y = .non ∧ PySem.W.subIn X.K (.type "NoneType") (.ref C) = some false)
theorem Oth.kind {H : Hp} {y : V} {u : Value} {pins : List (Addr × Obj)} {σ : L2.St} {s : Shared} (I : Inv X pins σ H s) (o : Oth X C H y) (r : RelV y u) : ∃ tb, PySem.W.Looks (model X.prog X.w) s.heap (typeOf u) tb ∧ PySem.W.notFirst X.K C tb = true := by
  rcases o with ⟨b, dy, gs, rfl, eb⟩ | ⟨⟨z, rfl⟩, hs⟩ | ⟨rfl, hs⟩
  · cases r
    obtain ⟨od, J⟩ := inst I eb
    exact ⟨_, J.type, by simp [PySem.W.notFirst]⟩
  · obtain ⟨t, rfl⟩ := r
    exact ⟨.type "str", .of_pure rfl, by simp [PySem.W.notFirst, hs]⟩
  · cases r
    exact ⟨.type "NoneType", .of_pure rfl, by simp [PySem.W.notFirst, hs]⟩
def rCmpO (X : Cx) (C : Addr) (sp : Sp) (E : XK) : R2 := fun x y H Q => ∃ a dx fs, x = .ref a ∧ H a = some (.ins C dx fs) ∧ Oth X C H y ∧ sp [.ref a, y] H (fun v H2 => ∃ b, v = .bl b ∧ Q (.bl b) H2) E
theorem cmpO {op : CmpOp} {m : Str} (hm : (cmpInfo op).2.1 = m) (S : Spc X.K C f m) (F : FnOk X.prog X.w X.K X.mg X.base CX k f fd ps sp) (hr : Room k X.A) (hb : Binds X.K fd ps []) (hx : Passes CX X E) : OpR X (richCompare op) (rCmpO X C sp E) := by
  intro pins s σ H x y v u Q I rx ry h
  obtain ⟨a, dx, fs, rfl, ea, o, h⟩ := h
  cases rx
  obtain ⟨od, J⟩ := inst I ea
  obtain ⟨mm, hF⟩ := I.fr
  obtain ⟨tb, lb, nb⟩ := o.kind I ry
  refine PySem.W.cmp_K hr.units0 hF I.ok.mod.kin J lb nb (by rw [hm]; exact S.at_) S.fn (thn (run_at (vs := [.ref a, y]) F hr rfl hb hx I (.cons rfl (.cons ry .nil)) h) fun w s2 hv => ?_)
  obtain ⟨z, H2, I2, rz, b, rfl, q⟩ := hv
  cases rz
  exact ⟨.bl b, H2, I2, rfl, q⟩
theorem op_eqO (S : Spc X.K C f "__eq__") (F : FnOk X.prog X.w X.K X.mg X.base CX k f fd ps sp) (hr : Room k X.A) (hb : Binds X.K fd ps []) (hx : Passes CX X E) : OpR X (compareOp .Eq) (rCmpO X C sp E) := cmpO (op := .Eq) rfl S F hr hb hx
end
end Ow
namespace Ow
open PySem PySem.W PySem.Calls PyProof.Rows
section
variable {prog : Program} {w : World} {A : Around} {E : Value → Shared → Prop} {s : Shared} {K : Frag} {x C L f : Addr} {h₀ : Heap} {m : Str → Option Value} {ox : Obj} {od : Option Obj} {b tb : Value}
theorem bound_b {M : Model} {name : Str} {id : String} {args : List Value} {Q : Option Value → Shared → Prop} (X : K.In s.heap) (I : InstAt s.heap x ox C od) (hs : findIn K (.ref C) name = some (some (.builtin id)))
    (hb : ∀ self, bindSpecial (.builtin id) self = pure (.builtin id, [self])) (h : wpAny M A (call (.builtin id) (.ref x :: args)) (fun v => Q (some v)) E s) : wpAny M A (callSpecialIfBound? (.ref x) name args) Q E s := by
  have fin : wpAny M A (call (.builtin id) ([.ref x] ++ args) >>= fun v => pure (some v)) Q E s := wpAny_bind (wpAny_mono h (fun _ _ z => wpAny_pure z) fun _ _ z => z)
  have bd := (Looks.of_pure (M := M) (h := s.heap) (hb (.ref x)))
  simp only [callSpecialIfBound?, bindSpecialIfBound?]
  refine wpAny_holding (wpAny_bind (wpAny_bind (wpAny_bind (I.type.here ((looks_findIn X hs).here (wpAny_bind (wpAny_askSetting (wpAny_ite ?_))))))))
  split
  · exact wpAny_bind (bd.here (wpAny_pure (by exact fin)))
  · exact wpAny_tryCatch (wpAny_bind (bd.here (wpAny_pure (by exact fin))))
open Builtin in
/-- != by an own == -/
theorem ne_K {Q : Value → Shared → Prop} (hu : A.units < cLine) (hu1 : A.in1.units < cLine) (F : Fr h₀ L s.heap m) (X₀ : K.In h₀) (I : InstAt s.heap x ox C od) (hb : Looks (model prog w) s.heap (typeOf b) tb) (hn : notFirst K C tb = true)
    (hne : findIn K (.ref C) "__ne__" = some (some (.builtin "object.__ne__"))) (he : findIn K (.ref C) "__eq__" = some (some (.ref f))) (hf : isFn K (.ref f) = true) (hm : mroIn K C (.type "object") = some true)
    (h : wpAny (model prog w) A.in1 (call (.ref f) [.ref x, b]) (fun v s2 => ∃ r, v = .bool r ∧ Q (.bool (!r)) s2) E s) : wpAny (model prog w) A (richCompare .NotEq (.ref x) b) Q E s := by
  have X := X₀.keeps F.keep
  have body : wpAny (model prog w) A.in1 (Builtin.«object.__ne__» ⟨[.ref x, b], []⟩) (fun fin s2 => ∃ r, fin = .done (.ret (.bool r)) ∧ Q (.bool r) s2) E s := by
    unfold Builtin.«object.__ne__»
    refine wpAny_bind (m := slotArgs "__ne__" 1 _) (wpAny_pure (wpAny_bind (m := cRoomFor _ _) (wpAny_cRoomFor hu1 (wpAny_bind (m := callSpecialIfBound? (.ref x) (Str.ofString "__eq__") [b]) (ifBound_K X I he hf (wpAny_mono h (fun v s2 hv => ?_) fun _ _ z => z))))))
    obtain ⟨r, rfl, q⟩ := hv
    exact wpAny_bind (m := truthy (.bool r)) (wpAny_truthy_bool (wpAny_pure ⟨_, rfl, q⟩))
  have one : wpAny (model prog w) A (tryCompare (.ref x) "__ne__" b) (fun r s2 => ∃ v, r = some v ∧ Q v s2) E s := by
    unfold tryCompare
    refine wpAny_bind (bound_b X I hne PySem.F.slot_object_ne.bind (wpAny_call (codeAny_call_builtin PySem.F.slot_object_ne.plain PySem.F.entry_object_ne
      (check_slot (i := "object.__ne__") (owner := "object") (n := "__ne__") (by decide +kernel) (by decide +kernel) (I.type.andThen (looks_mroIn X hm)) (PySem.F.args_object_ne_2 _ _) (wpAny_mono body (fun fin s2 hv => ?_) fun _ _ z => z)))))
    obtain ⟨r, rfl, q⟩ := hv
    exact wpAny_pure ⟨_, rfl, q⟩
  unfold richCompare
  simp only [oneThing_ref]
  refine wpAny_holding (wpAny_bind (wpAny_cRoomFor hu (wpAny_bind (I.type.here (wpAny_bind (hb.here ?_))))))
  split
  · rename_i q
    have e : subIn K tb (.ref C) = some false := (Bool.or_eq_true_iff.mp hn).elim (fun e => absurd (beq_iff_eq.mp e).symm (by simpa using q)) beq_iff_eq.mp
    refine wpAny_bind ((looks_subIn X e).here ?_)
    simp only [Bool.false_eq_true, if_false]
    exact wpAny_bind (wpAny_mono one (fun r s2 ⟨v, e, q⟩ => by subst e; exact wpAny_pure q) fun _ _ z => z)
  · refine wpAny_bind (wpAny_pure ?_)
    simp only [Bool.false_eq_true, if_false]
    exact wpAny_bind (wpAny_mono one (fun r s2 ⟨v, e, q⟩ => by subst e; exact wpAny_pure q) fun _ _ z => z)
end
end Ow
namespace Ow
open PySem PySem.Spec PyProof.Rows L2
section
variable {X : Cx} {CX : CXT} {k : Nat} {C f : Addr} {fd : FuncData} {ps : List Str} {sp : Sp} {E : XK}
/-- the class takes != from its own == -/
structure NeC (K : PySem.W.Frag) (C f : Addr) : Prop where
  eq : Spc K C f "__eq__"
  ne : PySem.W.findIn K (.ref C) "__ne__" = some (some (.builtin "object.__ne__"))
  obj : PySem.W.mroIn K C (.type "object") = some true
def rNeO (X : Cx) (C : Addr) (sp : Sp) (E : XK) : R2 := fun x y H Q => ∃ a dx fs, x = .ref a ∧ H a = some (.ins C dx fs) ∧ Oth X C H y ∧ sp [.ref a, y] H (fun v H2 => ∃ b, v = .bl b ∧ Q (.bl (!b)) H2) E
theorem op_neO (S : NeC X.K C f) (F : FnOk X.prog X.w X.K X.mg X.base CX k f fd ps sp) (hr : Room (k + 1) X.A) (hb : Binds X.K fd ps []) (hx : Passes CX X E) : OpR X (compareOp .NotEq) (rNeO X C sp E) := by
  intro pins s σ H x y v u Q I rx ry h
  obtain ⟨a, dx, fs, rfl, ea, o, h⟩ := h
  cases rx
  obtain ⟨od, J⟩ := inst I ea
  obtain ⟨mm, hF⟩ := I.fr
  obtain ⟨tb, lb, nb⟩ := o.kind I ry
  refine ne_K hr.units0 hr.in1.units0 hF I.ok.mod.kin J lb nb S.ne S.eq.at_ S.eq.fn S.obj (thn (run_at (vs := [.ref a, y]) F hr.in1 rfl hb hx I (.cons rfl (.cons ry .nil)) h) fun w s2 hv => ?_)
  obtain ⟨z, H2, I2, rz, b, rfl, q⟩ := hv
  cases rz
  exact ⟨b, rfl, .bl (!b), H2, I2, rfl, q⟩
/-- an instance's truth by __bool__ -/
theorem call_boolO (S : Spc X.K C f "__bool__") (F : FnOk X.prog X.w X.K X.mg X.base CX k f fd ps sp) (hr : Room (k + 2) X.A) (hb : Binds X.K fd ps []) (hx : Passes CX X E) : CallR X (.type "bool") (fun xs H Q => ∃ a dx fs, xs = [.ref a] ∧ H a = some (.ins C dx fs) ∧ sp [.ref a] H (fun v H2 => ∃ b, v = .bl b ∧ Q (.bl b) H2) E) := by
  intro pins s σ H xs us Q I r h
  obtain ⟨a, dx, fs, rfl, ea, h⟩ := h
  obtain ⟨u, rfl, rx⟩ := vals1 r
  cases rx
  obtain ⟨od, J⟩ := inst I ea
  refine callType_codes (T := "bool") (Bi := Builtin.«object.__init__») (Q₁ := fun r s₁ => ∃ b, r = .bool b ∧ EP X pins σ Q r s₁) PySem.F.called_bool (PySem.F.typeCall_bool_1 _) PySem.F.entry_object_init ?_ ?_
  · refine codeAny_of_tree ?_
    show wpAny _ X.A.in1.in1 (do checkBuiltinCall "bool.__new__" ⟨[.type "bool", .ref a], []⟩; again (.builtin "bool.__new__" ⟨[.type "bool", .ref a], []⟩)) _ _ s
    refine wpAny_bind (wpAny_of_eq (PySem.F.newCall_bool_1 _) (wpAny_pure ⟨plainId_quiet (by decide +kernel) _, codeAny_builtin PySem.F.entry_bool_new ?_⟩))
    rw [Around.under_plainId (by decide +kernel) _]
    have f1 := PySem.F.conv_sub_bool
    obtain ⟨m, hF⟩ := I.fr
    have tr : wpAny (model X.prog X.w) X.A.in1.in1 (truthy (.ref a)) (fun b s2 => EP X pins σ Q (.bool b) s2) X.xe s := PySem.W.truthy_K hF I.ok.mod.kin J S.at_ S.fn (thn (run_at F hr.in1.in1 rfl hb hx I r h) fun v s2 hv => by
      obtain ⟨z, H2, I2, rz, b, rfl, q⟩ := hv
      cases rz
      exact ⟨.bl b, H2, I2, rfl, q⟩)
    refine wpAny_bind (m := isType (.type "bool")) (wpAny_pure (wpAny_bind (m := isSubtype _ _) (wpAny_of_eq f1 ?_)))
    refine wpAny_bind (m := someArgs "bool" 0 1 _) (wpAny_pure ?_)
    exact wpAny_bind (wpAny_mono tr (fun b s2 q => wpAny_pure ⟨_, rfl, q⟩) fun _ _ z => z)
  · rintro obj s₁ ⟨b, rfl, hq⟩
    exact ⟨PySem.typeIs_bool _ _, PySem.F.args_object_init_2 _ _, object_init_meets PySem.F.called_bool.init.lookup PySem.F.called_bool.made (by decide) X.prog X.w X.A.in1 _ s₁ ⟨PySem.typeIs_bool _ _, rfl, hq⟩⟩
end
end Ow
namespace K1
open PySem PySem.Spec PyProof.Rows L2
def topS (i : Nat) : Stmt := PySem.Challenge.pw_soleinstances_k60_bent_papers_of_soundne.main.body.getD i (.Pass ⟨0, 0, 0, 0⟩)
abbrev sInvB : Stmt := topS 3
abbrev sInvP : Stmt := topS 4
abbrev sBook : Stmt := topS 7
abbrev sIsWord : Stmt := topS 9
abbrev sIndex : Stmt := topS 12
abbrev sChkB : Stmt := topS 14
abbrev sChkP : Stmt := topS 15
abbrev sReason : Stmt := topS 16
abbrev sShapes : Stmt := topS 19
abbrev sSound : Stmt := topS 20
abbrev sLetBy : Stmt := topS 21
abbrev sApart : Stmt := topS 22
abbrev sPairs : Stmt := topS 23
abbrev sNumOf : Stmt := topS 24
abbrev sIsShape : Stmt := topS 25
abbrev sDraw : Stmt := topS 27
abbrev sTake : Stmt := topS 28
abbrev sNewWords : Stmt := topS 29
abbrev sMade : Stmt := topS 30
abbrev sLets : Stmt := topS 31
abbrev sPlApart : Stmt := topS 32
abbrev sIsInt : Stmt := topS 33
abbrev sIsRow : Stmt := topS 34
abbrev sLShapes : Stmt := topS 35
abbrev sLReason : Stmt := topS 36
abbrev sIsPaper : Stmt := topS 37
abbrev sHandR : Stmt := topS 38
abbrev sBentR : Stmt := topS 39
abbrev sLaw : Stmt := topS 40
/-- a statement of a class's body -/
def inCls (c : Stmt) (i : Nat) : Stmt := match c with | .ClassDef (body := b) .. => b.getD i (.Pass ⟨0, 0, 0, 0⟩) | _ => .Pass ⟨0, 0, 0, 0⟩
abbrev mInit : Stmt := inCls sBook 0
abbrev mOwner : Stmt := inCls sBook 5
abbrev mLook : Stmt := inCls sBook 7
abbrev mChoose : Stmt := inCls sBook 9
abbrev mEarly : Stmt := inCls sBook 13
abbrev mEq : Stmt := inCls sBook 24
abbrev mErr : Stmt := inCls sInvB 0
abbrev mErrP : Stmt := inCls sInvP 0
end K1
namespace K1
open PySem PySem.Spec PyProof.Rows L2 Bk
/-- the words of a book -/
structure Wds where
  o : Str
  l : Str
  c : Str
  n : Str
  e : Str
def oW : List Str := ["early", "first", "any", "anybody"]
def lW : List Str := ["apart", "ladder", "same", "nothing"]
def cW : List Str := ["sole", "special", "first"]
def nW : List Str := ["behind", "ahead"]
def eW : List Str := ["refused", "wait", "once"]
def prts : List Str := ["owner", "look", "choose", "wants", "early"]
def Wds.list (w : Wds) : List Str := [w.o, w.l, w.c, w.n, w.e]
def Wds.Ok (w : Wds) : Prop := w.o ∈ oW ∧ w.l ∈ lW ∧ w.c ∈ cW ∧ w.n ∈ nW ∧ w.e ∈ eW
def Wds.kvs (w : Wds) : List (Key × V) := [(.inr "owner", .str w.o), (.inr "look", .str w.l), (.inr "choose", .str w.c), (.inr "wants", .str w.n), (.inr "early", .str w.e)]
/-- the words that a switch may have -/
def optW (p : Str) : List Str := if p = "owner" then oW else if p = "look" then lW else if p = "choose" then cW else if p = "wants" then nW else eW
/-- the words of the switches as they stand in the module -/
structure SWF (K : PySem.W.Frag) (mg : Str → Option Value) (w : World) (D : Addr) : Prop where
  g : mg "SWITCHES" = some (.ref D)
  d : WD K w D prts
  it : ∀ p ∈ prts, ∃ T, KDct K w D p (.ref T) ∧ ∀ H, SqT K H T ((optW p).map V.str)
/-- what is known of the class of books -/
structure BF (K : PySem.W.Frag) (mg : Str → Option Value) (CB : Addr) : Prop where
  cl : Cls K CB
  nC : NoAttr K CB "chosen"
  gB : mg "Book" = some (.ref CB)
  ha : PySem.W.findIn K (.ref CB) "__class__" = some (some (.builtin "object.__class__"))
  hn : PySem.W.specialIn K (.builtin "object.__class__") "__get__" = some (some (.builtin "getset_descriptor.__get__"))
  htk : PySem.W.takesIn K (.builtin "object.__class__") = some true
  hm : PySem.W.mroIn K CB (.type "object") = some true
  own : PySem.W.kitOne K (.ref CB) (.ref CB) = some true
/-- x is a book with these words -/
def BookAt (CB : Addr) (H : Hp) (x : Addr) (w : Wds) : Prop := ∃ dx d, H x = some (.ins CB dx [("chosen", .ref d)]) ∧ H d = some (.dK w.kvs)
theorem BookAt.same {CB : Addr} {H H' : Hp} {x : Addr} {w : Wds} (h : BookAt CB H x w) (s : Same H H') : BookAt CB H' x w := let ⟨dx, d, a, b⟩ := h; ⟨dx, d, s _ _ a, s _ _ b⟩
/-- the module's names -/
structure Tx (mg : Str → Option Value) : Prop where
  len : mg "len" = none
  isi : mg "isinstance" = none
  str : mg "str" = none
  int : mg "int" = none
  range : mg "range" = none
  max : mg "max" = none
  min : mg "min" = none
  tuple : mg "tuple" = none
  list : mg "list" = none
  bool : mg "bool" = none
/-- a value that is no text -/
def NoStr (K : PySem.W.Frag) (H : Hp) (x : V) : Prop := ∃ t : String, TyX K H x (.type t) ∧ kitB t "str" = some false
theorem in_strs (z : Str) (l : List Str) : inV (.str z) (l.map V.str) = decide (z ∈ l) := by
  unfold inV
  induction l with
  | nil => rfl
  | cons a l ih =>
    rw [List.map_cons, List.any_cons, ih]
    show ((a == z) || decide (z ∈ l)) = _
    by_cases h : a = z
    · subst h
      simp
    · rw [beq_eq_false_iff_ne.mpr h, Bool.false_or, decide_eq_decide]
      constructor
      · intro q
        exact List.mem_cons_of_mem _ q
      · intro q
        rcases List.mem_cons.mp q with e | q
        · exact absurd e.symm h
        · exact q
theorem scIsWord : FnScope ["part", "value"] ["part", "value"] (defScope sIsWord) := ⟨rfl, rfl, rfl, by decide +kernel, rfl, by decide +kernel, by decide +kernel⟩
def spIsWord (K : PySem.W.Frag) : Sp := fun vs H Q _ => ∃ (p : Str) (x : V), vs = [.str p, x] ∧ p ∈ prts ∧ ((∃ z, x = .str z ∧ Q (.bl (decide (z ∈ optW p))) H) ∨ (NoStr K H x ∧ Q (.bl false) H))
section
variable {P : Program} {w : World} {K : PySem.W.Frag} {mg : Str → Option Value} {base : Heap} {CB D : Addr}
theorem ok_isWord {f : Addr} {fd : FuncData} (F : Fun K "_is_word" "_is_word" sIsWord f fd) (T : Tx mg) (S : SWF K mg w D) : FnOk P w K mg base CX0 1 f fd ["part", "value"] (spIsWord K) := by
  refine F.ok scIsWord (fun vs H Q E h => ?_) (fun cdv A outer s H vs Q E hr h => ?_)
  · obtain ⟨p, x, rfl, _⟩ := h
    rfl
  · obtain ⟨p, x, rfl, hp, h⟩ := h
    refine ⟨_, pss_one (ps_ret (pe_and (pe_callB call_isi (by rfl) T.isi (by decide +kernel) (pa_cons (pv 1) (pa_cons (pe_bltn (v := .ty "str") (u := .type "str") (by rfl) T.str (by decide +kernel) rfl) pa_nil)))
      (pe_one (pe_cmpR op_in_seq (pv 1) (pe_ix ix_kdict (pe_glob (v := .ref D) (by rfl) S.g rfl) (pv 0) (fun _ _ => rfl)) (by rfl))))), ?_⟩
    obtain ⟨TT, hk, ht⟩ := S.it p hp
    rcases h with ⟨z, rfl, q⟩ | ⟨⟨t, ty, kt⟩, q⟩
    · refine ⟨_, rfl, _, _, _, _, true, rfl, .ty "str", .base (.str z), kit_ty (by decide +kernel), true, rfl, iteT ?_⟩
      refine ⟨_, rfl, _, rfl, D, p, _, rfl, rfl, hk, TT, _, rfl, .inr (ht _), rfl, flat_strs _, ?_⟩
      rw [in_strs]
      exact q
    · exact ⟨_, rfl, _, _, _, _, false, rfl, .ty "str", ty, kit_ty kt, false, rfl, iteF q⟩
end
end K1
namespace K1
open PySem PySem.Spec PyProof.Rows L2 Bk
theorem scInit : FnScope ["self", "owner", "look", "choose", "wants", "early", "chosen", "part"] ["self", "owner", "look", "choose", "wants", "early"] (defScope mInit) := ⟨rfl, rfl, rfl, by decide +kernel, rfl, by decide +kernel, by decide +kernel⟩
theorem keys_ne : (Sum.inr "owner" : Key) ≠ .inr "look" := by decide +kernel
def kvs5 (a b c d e : V) : List (Key × V) := [(.inr "owner", a), (.inr "look", b), (.inr "choose", c), (.inr "wants", d), (.inr "early", e)]
theorem merge5 (a b c d e : V) : mergeK [] (kvs5 a b c d e) = kvs5 a b c d e := by
  have n1 : ¬ ((Sum.inr "owner" : Key) = .inr "look") := by decide +kernel
  have n2 : ¬ ((Sum.inr "owner" : Key) = .inr "choose") := by decide +kernel
  have n3 : ¬ ((Sum.inr "owner" : Key) = .inr "wants") := by decide +kernel
  have n4 : ¬ ((Sum.inr "owner" : Key) = .inr "early") := by decide +kernel
  have n5 : ¬ ((Sum.inr "look" : Key) = .inr "choose") := by decide +kernel
  have n6 : ¬ ((Sum.inr "look" : Key) = .inr "wants") := by decide +kernel
  have n7 : ¬ ((Sum.inr "look" : Key) = .inr "early") := by decide +kernel
  have n8 : ¬ ((Sum.inr "choose" : Key) = .inr "wants") := by decide +kernel
  have n9 : ¬ ((Sum.inr "choose" : Key) = .inr "early") := by decide +kernel
  have n10 : ¬ ((Sum.inr "wants" : Key) = .inr "early") := by decide +kernel
  unfold mergeK kvs5
  simp only [List.foldl, putK, List.any_nil, List.any_cons, Bool.false_eq_true, if_false, List.nil_append, List.cons_append, decide_eq_false n1, decide_eq_false n2, decide_eq_false n3, decide_eq_false n4, decide_eq_false n5, decide_eq_false n6, decide_eq_false n7, decide_eq_false n8, decide_eq_false n9, decide_eq_false n10, Bool.or_false]
theorem kvs5_get (a b c d e : V) : valV (kvs5 a b c d e) (.inr "owner") = some a ∧ valV (kvs5 a b c d e) (.inr "look") = some b ∧ valV (kvs5 a b c d e) (.inr "choose") = some c ∧ valV (kvs5 a b c d e) (.inr "wants") = some d ∧ valV (kvs5 a b c d e) (.inr "early") = some e := by
  have n1 : ¬ ((Sum.inr "owner" : Key) = .inr "look") := by decide +kernel
  have n2 : ¬ ((Sum.inr "owner" : Key) = .inr "choose") := by decide +kernel
  have n3 : ¬ ((Sum.inr "owner" : Key) = .inr "wants") := by decide +kernel
  have n4 : ¬ ((Sum.inr "owner" : Key) = .inr "early") := by decide +kernel
  have n5 : ¬ ((Sum.inr "look" : Key) = .inr "choose") := by decide +kernel
  have n6 : ¬ ((Sum.inr "look" : Key) = .inr "wants") := by decide +kernel
  have n7 : ¬ ((Sum.inr "look" : Key) = .inr "early") := by decide +kernel
  have n8 : ¬ ((Sum.inr "choose" : Key) = .inr "wants") := by decide +kernel
  have n9 : ¬ ((Sum.inr "choose" : Key) = .inr "early") := by decide +kernel
  have n10 : ¬ ((Sum.inr "wants" : Key) = .inr "early") := by decide +kernel
  unfold kvs5
  refine ⟨valV_pos rfl, ?_, ?_, ?_, ?_⟩
  · rw [valV_neg n1]; exact valV_pos rfl
  · rw [valV_neg n2, valV_neg n5]; exact valV_pos rfl
  · rw [valV_neg n3, valV_neg n6, valV_neg n8]; exact valV_pos rfl
  · rw [valV_neg n4, valV_neg n7, valV_neg n9, valV_neg n10]; exact valV_pos rfl
theorem Wds.kvs_eq (w : Wds) : w.kvs = kvs5 (.str w.o) (.str w.l) (.str w.c) (.str w.n) (.str w.e) := rfl
/-- the word of a switch -/
def Wds.at (w : Wds) (p : Str) : Str := if p = "owner" then w.o else if p = "look" then w.l else if p = "choose" then w.c else if p = "wants" then w.n else w.e
theorem prts_cases {p : Str} (h : p ∈ prts) : p = "owner" ∨ p = "look" ∨ p = "choose" ∨ p = "wants" ∨ p = "early" := by
  unfold prts at h
  simp only [List.mem_cons, List.not_mem_nil, or_false] at h
  exact h
theorem Wds.get (w : Wds) {p : Str} (h : p ∈ prts) : valV w.kvs (.inr p) = some (.str (w.at p)) := by
  have g := kvs5_get (.str w.o) (.str w.l) (.str w.c) (.str w.n) (.str w.e)
  have m2 : ¬ (("look" : Str) = "owner") := by decide +kernel
  have m3 : ¬ (("choose" : Str) = "owner") ∧ ¬ (("choose" : Str) = "look") := by decide +kernel
  have m4 : ¬ (("wants" : Str) = "owner") ∧ ¬ (("wants" : Str) = "look") ∧ ¬ (("wants" : Str) = "choose") := by decide +kernel
  have m5 : ¬ (("early" : Str) = "owner") ∧ ¬ (("early" : Str) = "look") ∧ ¬ (("early" : Str) = "choose") ∧ ¬ (("early" : Str) = "wants") := by decide +kernel
  rw [Wds.kvs_eq]
  unfold Wds.at
  rcases prts_cases h with rfl | rfl | rfl | rfl | rfl
  · rw [if_pos rfl]; exact g.1
  · rw [if_neg m2, if_pos rfl]; exact g.2.1
  · rw [if_neg m3.1, if_neg m3.2, if_pos rfl]; exact g.2.2.1
  · rw [if_neg m4.1, if_neg m4.2.1, if_neg m4.2.2, if_pos rfl]; exact g.2.2.2.1
  · rw [if_neg m5.1, if_neg m5.2.1, if_neg m5.2.2.1, if_neg m5.2.2.2]; exact g.2.2.2.2
theorem Wds.Ok.at {w : Wds} (h : w.Ok) {p : Str} (hp : p ∈ prts) : w.at p ∈ optW p := by
  obtain ⟨h1, h2, h3, h4, h5⟩ := h
  have m2 : ¬ (("look" : Str) = "owner") := by decide +kernel
  have m3 : ¬ (("choose" : Str) = "owner") ∧ ¬ (("choose" : Str) = "look") := by decide +kernel
  have m4 : ¬ (("wants" : Str) = "owner") ∧ ¬ (("wants" : Str) = "look") ∧ ¬ (("wants" : Str) = "choose") := by decide +kernel
  have m5 : ¬ (("early" : Str) = "owner") ∧ ¬ (("early" : Str) = "look") ∧ ¬ (("early" : Str) = "choose") ∧ ¬ (("early" : Str) = "wants") := by decide +kernel
  unfold Wds.at optW
  rcases prts_cases hp with rfl | rfl | rfl | rfl | rfl
  · rw [if_pos rfl, if_pos rfl]; exact h1
  · rw [if_neg m2, if_neg m2, if_pos rfl, if_pos rfl]; exact h2
  · rw [if_neg m3.1, if_neg m3.1, if_neg m3.2, if_neg m3.2, if_pos rfl, if_pos rfl]; exact h3
  · rw [if_neg m4.1, if_neg m4.1, if_neg m4.2.1, if_neg m4.2.1, if_neg m4.2.2, if_neg m4.2.2, if_pos rfl, if_pos rfl]; exact h4
  · rw [if_neg m5.1, if_neg m5.1, if_neg m5.2.1, if_neg m5.2.1, if_neg m5.2.2.1, if_neg m5.2.2.1, if_neg m5.2.2.2, if_neg m5.2.2.2]; exact h5
/-- Book.__init__ of good words -/
def spInit (CB : Addr) : Sp := fun vs H Q _ => ∃ (x dx : Addr) (wd : Wds), vs = .ref x :: wd.list.map V.str ∧ H x = some (.ins CB dx []) ∧ wd.Ok ∧
  ∀ (d : Addr), H d = none → Q .non (upd (upd H d (.dK wd.kvs)) x (.ins CB dx [("chosen", .ref d)]))
section
variable {P : Program} {w : World} {K : PySem.W.Frag} {mg : Str → Option Value} {base : Heap} {CB D : Addr}
theorem ok_init {f fW : Addr} {fd fdW : FuncData} (F : Fun K "__init__" "Book.__init__" mInit f fd) (B : BF K mg CB) (S : SWF K mg w D) (mW : mg "_is_word" = some (.ref fW)) (kW : PySem.W.keepIn K (.ref fW) = true) (bW : Binds K fdW ["part", "value"] []) (GW : FnOk P w K mg base CX0 1 fW fdW ["part", "value"] (spIsWord K)) :
    FnOk P w K mg base CX0 2 f fd ["self", "owner", "look", "choose", "wants", "early"] (spInit CB) := by
  refine F.ok scInit (fun vs H Q E h => ?_) (fun cdv A outer s H vs Q E hr h => ?_)
  · obtain ⟨x, dx, wd, rfl, _⟩ := h
    rfl
  · obtain ⟨x, dx, wd, rfl, hx, hok, q⟩ := h
    have hu := hu_of hr
    refine ⟨_, pss_cons (ps_set (i := 6) scInit.nd rfl (Or.inl rfl) (pe_disp (pps_cons pe_str (pv 1) (pps_cons pe_str (pv 2) (pps_cons pe_str (pv 3) (pps_cons pe_str (pv 4) (pps_cons pe_str (pv 5) pps_nil))))) (by rfl) (by rfl) (fun z => by cases z) (by decide)))
      (pss_cons (ps_for PassesOwn.never rfl (pi_wkeys (pe_glob (v := .ref D) (by rfl) S.g rfl)) (pg_name (i := 7) scInit.nd rfl (Or.inl rfl))
        (pss_one (ps_if (pt_not (pt_val (pe_call GW hr (by rfl) mW kW bW .nil pass0 (pa_cons (pv 7) (pa_cons (pe_dget hu (pv 6) (pv 7) (fun _ _ => rfl)) pa_nil))))) (pss_one ps_never) pss_nil)))
      (pss_one (ps_fld (pv 0) (pv 6) rfl))), ?_⟩
    refine fun d nd => ?_
    refine ⟨_, rfl, _, rfl, _, rfl, _, rfl, _, rfl, upd_same, wd.kvs, rfl, by show 5 ≤ 15; decide, ?_⟩
    have hd2 : (upd (upd H d (.dK [])) d (.dK (mergeK [] wd.kvs))) = upd H d (.dK wd.kvs) := by
      rw [Wds.kvs_eq, merge5]
      funext b
      by_cases hb : b = d
      · rw [hb, upd_same, upd_same]
      · rw [upd_ne hb, upd_ne hb, upd_ne hb]
    show _
    rw [hd2]
    refine ⟨D, prts, rfl, S.d, for_it walk_w (fun i σ H' => H' = upd H d (.dK wd.kvs) ∧ σ[0]? = some (some (V.ref x)) ∧ σ[6]? = some (some (V.ref d)) ∧ σ.length = 8) ⟨rfl, rfl, rfl, rfl⟩ (fun _ _ _ _ _ => trivial) ?_ ?_⟩
    · rintro i y σ H1 H2 hi ⟨rfl, s0, s6, sl⟩ ⟨rfl, k, hk, rfl⟩
      have hkm : k ∈ prts := List.mem_of_getElem? hk
      refine ⟨.str k, List.getElem?_set_self (by omega), .ref d, by rw [List.getElem?_set_ne (by decide)]; exact s6, .str k, List.getElem?_set_self (by omega), d, .str (wd.at k), rfl, (Wds.get wd hkm) ▸ DGet.k (k := Sum.inr k) upd_same, ?_⟩
      refine ⟨k, .str (wd.at k), rfl, hkm, .inl ⟨_, rfl, ?_⟩⟩
      rw [decide_eq_true (hok.at hkm)]
      refine ⟨_, rfl, iteF ⟨rfl, by rw [List.getElem?_set_ne (by decide)]; exact s0, by rw [List.getElem?_set_ne (by decide)]; exact s6, by rw [List.length_set]; exact sl⟩⟩
    · rintro σ H1 ⟨rfl, s0, s6, sl⟩
      refine ⟨_, s6, _, s0, x, CB, dx, [], rfl, ?_, B.cl, B.nC, by decide, ?_⟩
      · rw [upd_ne (ne_of_none hx nd)]
        exact hx
      · exact q d nd
end
end K1
namespace K1
open PySem PySem.Spec PyProof.Rows L2 Bk
theorem scErr : FnScope ["self", "part"] ["self", "part"] (defScope mErr) := ⟨rfl, rfl, rfl, by decide +kernel, rfl, by decide +kernel, by decide +kernel⟩
theorem scChkB : FnScope ["book"] ["book"] (defScope sChkB) := ⟨rfl, rfl, rfl, by decide +kernel, rfl, by decide +kernel, by decide +kernel⟩
def spErr (CE : Addr) (n : Str) : Sp := fun vs H Q _ => ∃ (a : Addr) (v : V), vs = [.ref a, v] ∧ H a = some (exo a CE none) ∧ ∀ dx, H dx = none → dx ≠ a → Q .non (upd (upd H dx (exd dx [(n, v)])) a (exo a CE (some dx)))
/-- what is known of an error -/
structure EF (K : PySem.W.Frag) (mg : Str → Option Value) (CE fE : Addr) (x n : Str) : Prop where
  ox : OexC K CE
  noV : PySem.W.findIn K (.ref CE) n = some none
  gE : mg x = some (.ref CE)
  iC : PySem.W.findIn K (.ref CE) "__init__" = some (some (.ref fE))
  tI : PySem.W.typeIn K (.ref fE) = some (.type "function")
theorem same_new {H : Hp} {p : Addr} {o : HO} (h : H p = none) : Same H (upd H p o) := fun b x e => by
  rw [upd_ne (ne_of_none e h)]
  exact e
theorem none_of {H H' : Hp} {p : Addr} (s : Same H H') (h : H' p = none) : H p = none := by
  cases e : H p with
  | none => rfl
  | some o =>
    have := s p o e
    rw [h] at this
    cases this
theorem err_same {H : Hp} {a d : Addr} {o1 o2 o3 o4 : HO} (na : H a = none) (nd : H d = none) : Same H (upd (del (upd (upd (upd H a o1) d o2) a o3) a) d o4) := fun b o e => by
  have h1 := ne_of_none e na
  have h2 := ne_of_none e nd
  rw [upd_ne h2, del_ne h1, upd_ne h1, upd_ne h2, upd_ne h1]
  exact e
/-- an error with a field flies -/
def Thr (CE : Addr) (n : Str) (x : V) (H : Hp) (E : XK) : Prop := ∀ (dd : Addr) (H' : Hp), H dd = none → Same H H' → H' dd = some (.xd [(n, x)]) → E (.ref CE) (some dd) H'
theorem Thr.same {CE : Addr} {n : Str} {x : V} {H H' : Hp} {E : XK} (h : Thr CE n x H E) (s : Same H H') : Thr CE n x H' E := fun dd H2 nd s2 e => h dd H2 (none_of s nd) (s.trans s2) e
/-- no book -/
def NotB (K : PySem.W.Frag) (CB : Addr) (H : Hp) (x : V) : Prop := ∃ ty : String, TyX K H x (.type ty) ∧ PySem.W.kitOne K (.type ty) (.ref CB) = some false
def spChkB (K : PySem.W.Frag) (CB CE : Addr) : Sp := fun vs H Q E => ∃ x, vs = [x] ∧ ((∃ a wd, x = .ref a ∧ BookAt CB H a wd ∧ Q .non H) ∨ (NotB K CB H x ∧ Thr CE "part" .non H E))
/-- the reading behind the making of an error, and its flight -/
theorem raise_err {CE : Addr} {n : Str} {v : V} {H : Hp} {E : XK} (h : Thr CE n v H E) : ∀ a, H a = none → spErr CE n [.ref a, v] (upd H a (exo a CE none)) (fun r H2 => r = .non ∧ ∃ (d : Addr) (fs : List (Str × V)), H2 a = some (exo a CE (some d)) ∧ H2 d = some (exd d fs) ∧ H d = none ∧ E (.ref CE) (some d) (upd (del H2 a) d (.xd fs))) (fun _ _ _ => False) := by
  intro a na
  refine ⟨a, v, rfl, upd_same, fun d2 nd2 ne => ⟨rfl, d2, _, upd_same, by rw [upd_ne ne, upd_same], by rw [upd_ne ne] at nd2; exact nd2, ?_⟩⟩
  rw [upd_ne ne] at nd2
  exact h d2 _ nd2 (err_same na nd2) upd_same
section
variable {P : Program} {w : World} {K : PySem.W.Frag} {mg : Str → Option Value} {base : Heap} {CB CE fE : Addr}
theorem ok_err {fd : FuncData} (F : Fun K "__init__" "InvalidBook.__init__" mErr fE fd) (W : EF K mg CE fE "InvalidBook" "part") : FnOk P w K mg base CX0 1 fE fd ["self", "part"] (spErr CE "part") := by
  refine F.ok scErr (fun vs H Q E h => ?_) (fun cdv A outer s H vs Q E hr h => ?_)
  · obtain ⟨a, v, rfl, _⟩ := h
    rfl
  · obtain ⟨a, v, rfl, ha, q⟩ := h
    refine ⟨_, pss_one (ps_ost (pv 0) (pv 1)), ?_⟩
    exact ⟨_, rfl, _, rfl, a, CE, rfl, W.ox, W.noV, .inl ⟨ha, fun dx n ne => q dx n ne⟩⟩
theorem ok_chkB {f : Addr} {fd fdE : FuncData} (F : Fun K "check_book" "check_book" sChkB f fd) (T : Tx mg) (B : BF K mg CB) (W : EF K mg CE fE "InvalidBook" "part") (bE : Binds K fdE ["self", "part"] []) (GE : FnOk P w K mg base CX0 1 fE fdE ["self", "part"] (spErr CE "part")) :
    FnOk P w K mg base (CX P w) 3 f fd ["book"] (spChkB K CB CE) := by
  refine F.okX scChkB (fun vs H Q E h => ?_) (fun cdv A outer s H vs Q E hr h => ?_)
  · obtain ⟨x, rfl, _⟩ := h
    rfl
  · obtain ⟨x, rfl, h⟩ := h
    refine ⟨_, pss_one (ps_if (pt_not (pt_val (pe_callB call_isi (by rfl) T.isi (by decide +kernel) (pa_cons (pv 0) (pa_cons (pe_glob (v := .ref CB) (by rfl) B.gB rfl) pa_nil)))))
      (pss_one (ps_raise rfl (takes_of rfl rfl rfl rfl) (pmk_oex (dvs := []) (ds := []) W.ox W.iC W.tI GE hr bE .nil pass0 (by rfl) W.gE (pa_cons pe_non pa_nil)))) pss_nil), ?_⟩
    rcases h with ⟨a, wd, rfl, ⟨dx, d, hx, hd⟩, q⟩ | ⟨⟨ty, h1, h2⟩, q⟩
    · exact ⟨_, rfl, _, _, _, _, true, rfl, .own CB, .base (.ins hx B.cl B.ha B.hn B.htk B.hm), B.own, true, rfl, iteF q⟩
    · exact ⟨_, rfl, _, _, _, _, false, rfl, .own CB, h1, h2, false, rfl, iteT ⟨by show 1 ≤ 1000; decide, raise_err q⟩⟩
end
end K1
namespace K1
open PySem PySem.Spec PyProof.Rows L2 Bk
theorem scErrP : FnScope ["self", "value"] ["self", "value"] (defScope mErrP) := ⟨rfl, rfl, rfl, by decide +kernel, rfl, by decide +kernel, by decide +kernel⟩
theorem scIndex : FnScope ["value", "many"] ["value", "many"] (defScope sIndex) := ⟨rfl, rfl, rfl, by decide +kernel, rfl, by decide +kernel, by decide +kernel⟩
theorem scChkP : FnScope ["places"] ["places"] (defScope sChkP) := ⟨rfl, rfl, rfl, by decide +kernel, rfl, by decide +kernel, by decide +kernel⟩
theorem scOwner : FnScope ["self"] ["self"] (defScope mOwner) := ⟨rfl, rfl, rfl, by decide +kernel, rfl, by decide +kernel, by decide +kernel⟩
theorem scLook : FnScope ["self"] ["self"] (defScope mLook) := ⟨rfl, rfl, rfl, by decide +kernel, rfl, by decide +kernel, by decide +kernel⟩
theorem scChoose : FnScope ["self"] ["self"] (defScope mChoose) := ⟨rfl, rfl, rfl, by decide +kernel, rfl, by decide +kernel, by decide +kernel⟩
theorem scEarly : FnScope ["self"] ["self"] (defScope mEarly) := ⟨rfl, rfl, rfl, by decide +kernel, rfl, by decide +kernel, by decide +kernel⟩
theorem scReason : FnScope ["book"] ["book"] (defScope sReason) := ⟨rfl, rfl, rfl, by decide +kernel, rfl, by decide +kernel, by decide +kernel⟩
/-- a value that is no index -/
def BadIx (K : PySem.W.Frag) (H : Hp) (x : V) : Prop := ∃ t : String, TyX K H x (.type t) ∧ (kitB t "bool" = some true ∨ (kitB t "bool" = some false ∧ kitB t "int" = some false))
def spIndex (K : PySem.W.Frag) : Sp := fun vs H Q _ => ∃ (x : V) (n : Int), vs = [x, .int n] ∧ ((∃ i, x = .int i ∧ Q (.bl (decide (0 ≤ i) && decide (i < n))) H) ∨ (BadIx K H x ∧ Q (.bl false) H))
/-- no number of places -/
def NotP (K : PySem.W.Frag) (H : Hp) (x : V) : Prop := (∃ i : Int, x = .int i ∧ ¬ (1 ≤ i ∧ i ≤ 3)) ∨ BadIx K H x
def spChkP (K : PySem.W.Frag) (CP : Addr) : Sp := fun vs H Q E => ∃ x, vs = [x] ∧ ((∃ n : Nat, x = .int (n : Int) ∧ 1 ≤ n ∧ n ≤ 3 ∧ Q .non H) ∨ (NotP K H x ∧ Thr CP "value" x H E))
/-- a property of a book -/
def spProp (CB : Addr) (p : Str) : Sp := fun vs H Q _ => ∃ (x : Addr) (wd : Wds), vs = [.ref x] ∧ BookAt CB H x wd ∧ Q (.str (wd.at p)) H
def reasonW (wd : Wds) : Option Str :=
  if wd.l = "ladder" ∧ wd.c = "special" ∧ wd.e = "refused" then some "ladder" else if wd.l ≠ "apart" then none else if wd.c ≠ "first" then some "apart" else if wd.e = "once" then none else some "first"
def optV : Option Str → V
  | some z => .str z
  | none => .non
def spReason (CB : Addr) : Sp := fun vs H Q _ => ∃ (x : Addr) (wd : Wds), vs = [.ref x] ∧ BookAt CB H x wd ∧ Q (optV (reasonW wd)) H
theorem at_look (w : Wds) : w.at "look" = w.l := by
  unfold Wds.at
  rw [if_neg (by decide +kernel), if_pos rfl]
theorem at_owner (w : Wds) : w.at "owner" = w.o := by
  unfold Wds.at
  rw [if_pos rfl]
theorem at_choose (w : Wds) : w.at "choose" = w.c := by
  unfold Wds.at
  rw [if_neg (by decide +kernel), if_neg (by decide +kernel), if_pos rfl]
theorem at_early (w : Wds) : w.at "early" = w.e := by
  unfold Wds.at
  rw [if_neg (by decide +kernel), if_neg (by decide +kernel), if_neg (by decide +kernel), if_neg (by decide +kernel)]
theorem dec_str (a b : Str) : decide (V.str a = V.str b) = decide (a = b) := by
  rw [decide_eq_decide]
  exact ⟨fun h => by injection h, fun h => by rw [h]⟩
section
variable {P : Program} {w : World} {K : PySem.W.Frag} {mg : Str → Option Value} {base : Heap} {CB CE CP fE fP : Addr}
theorem ok_errP {fd : FuncData} (F : Fun K "__init__" "InvalidPlaces.__init__" mErrP fP fd) (W : EF K mg CP fP "InvalidPlaces" "value") : FnOk P w K mg base CX0 1 fP fd ["self", "value"] (spErr CP "value") := by
  refine F.ok scErrP (fun vs H Q E h => ?_) (fun cdv A outer s H vs Q E hr h => ?_)
  · obtain ⟨a, v, rfl, _⟩ := h
    rfl
  · obtain ⟨a, v, rfl, ha, q⟩ := h
    refine ⟨_, pss_one (ps_ost (pv 0) (pv 1)), ?_⟩
    exact ⟨_, rfl, _, rfl, a, CP, rfl, W.ox, W.noV, .inl ⟨ha, fun dx n ne => q dx n ne⟩⟩
theorem ok_index {f : Addr} {fd : FuncData} (F : Fun K "is_index" "is_index" sIndex f fd) (T : Tx mg) : FnOk P w K mg base CX0 1 f fd ["value", "many"] (spIndex K) := by
  refine F.ok scIndex (fun vs H Q E h => ?_) (fun cdv A outer s H vs Q E hr h => ?_)
  · obtain ⟨x, n, rfl, _⟩ := h
    rfl
  · obtain ⟨x, n, rfl, h⟩ := h
    refine ⟨_, pss_cons (ps_if (PW.pt (pw_or (pt_val (pe_callB call_isi (by rfl) T.isi (by decide +kernel) (pa_cons (pv 0) (pa_cons (pe_bltn (v := .ty "bool") (u := .type "bool") (by rfl) T.bool (by decide +kernel) rfl) pa_nil))))
        (pw_or1 (pt_not (pt_val (pe_callB call_isi (by rfl) T.isi (by decide +kernel) (pa_cons (pv 0) (pa_cons (pe_bltn (v := .ty "int") (u := .type "int") (by rfl) T.int (by decide +kernel) rfl) pa_nil)))))))) (pss_one (ps_ret pe_bl)) pss_nil)
      (pss_one (ps_ret (pe_chain op_le op_lt pe_int (pv 0) (pv 1)))), ?_⟩
    rcases h with ⟨i, rfl, q⟩ | ⟨⟨t, ty, kt⟩, q⟩
    · refine ⟨_, rfl, _, _, _, _, false, rfl, .ty "bool", .base (.int i), kit_ty (by decide +kernel), false, rfl, iteF ?_⟩
      refine ⟨_, rfl, _, _, _, _, true, rfl, .ty "int", .base (.int i), kit_ty (by decide +kernel), true, rfl, iteF ?_⟩
      refine ⟨_, rfl, _, _, rfl, rfl, _, rfl, ?_⟩
      refine ite2 (fun c => ?_) (fun c => ?_)
      · rw [c, Bool.true_and] at q
        exact ⟨_, rfl, _, _, rfl, rfl, q⟩
      · rw [show decide (0 ≤ i) = false from Bool.eq_false_iff.mpr c, Bool.false_and] at q
        exact q
    · rcases kt with kt | ⟨k1, k2⟩
      · exact ⟨_, rfl, _, _, _, _, true, rfl, .ty "bool", ty, kit_ty kt, true, rfl, iteT q⟩
      · refine ⟨_, rfl, _, _, _, _, false, rfl, .ty "bool", ty, kit_ty k1, false, rfl, iteF ?_⟩
        exact ⟨_, rfl, _, _, _, _, false, rfl, .ty "int", ty, kit_ty k2, false, rfl, iteT q⟩
theorem ok_chkP {f fI : Addr} {fd fdP fdI : FuncData} (F : Fun K "check_places" "check_places" sChkP f fd) (mM : ∃ t, mg "MOST_PLACES" = some (.int 3 t)) (W : EF K mg CP fP "InvalidPlaces" "value") (bP : Binds K fdP ["self", "value"] []) (GP : FnOk P w K mg base CX0 1 fP fdP ["self", "value"] (spErr CP "value"))
    (mI : mg "is_index" = some (.ref fI)) (kI : PySem.W.keepIn K (.ref fI) = true) (bI : Binds K fdI ["value", "many"] []) (GI : FnOk P w K mg base CX0 1 fI fdI ["value", "many"] (spIndex K)) :
    FnOk P w K mg base (CX P w) 3 f fd ["places"] (spChkP K CP) := by
  refine F.okX scChkP (fun vs H Q E h => ?_) (fun cdv A outer s H vs Q E hr h => ?_)
  · obtain ⟨x, rfl, _⟩ := h
    rfl
  · obtain ⟨x, rfl, h⟩ := h
    obtain ⟨tm, mm⟩ := mM
    refine ⟨_, pss_one (ps_if (PW.pt (pw_or (pt_not (pt_val (pe_call GI (hr.mono (by decide)) (by rfl) mI kI bI .nil pass0 (pa_cons (pv 0) (pa_cons (pe_op op_add (pe_glob (v := .int 3) (by rfl) mm ⟨tm, rfl⟩) pe_int) pa_nil))))) (pw_or1 (pt_cmpR op_eq (pv 0) pe_int (nomark _)))))
      (pss_one (ps_raise rfl (takes_of rfl rfl rfl rfl) (pmk_oex (dvs := []) (ds := []) W.ox W.iC W.tI GP hr bP .nil pass0 (by rfl) W.gE (pa_cons (pv 0) pa_nil)))) pss_nil), ?_⟩
    rcases h with ⟨n, rfl, h1, h3, q⟩ | ⟨h, q⟩
    · refine ⟨_, rfl, _, _, rfl, rfl, _, _, rfl, .inl ⟨_, rfl, ?_⟩⟩
      rw [decide_eq_true (show (0 : Int) ≤ n by omega), decide_eq_true (show (n : Int) < 3 + 1 by omega)]
      refine ⟨_, rfl, iteF ⟨_, rfl, rfl, _, rfl, ?_⟩⟩
      rw [decide_eq_false (show ¬ (V.int (n : Int) = V.int 0) from fun e => by injection e with e; omega)]
      exact iteF q
    · rcases h with ⟨i, rfl, hi⟩ | hb
      · refine ⟨_, rfl, _, _, rfl, rfl, _, _, rfl, .inl ⟨_, rfl, ?_⟩⟩
        by_cases h0 : i = 0
        · subst h0
          rw [show (decide ((0 : Int) ≤ 0) && decide ((0 : Int) < 3 + 1)) = true from rfl]
          refine ⟨_, rfl, iteF ⟨_, rfl, rfl, _, rfl, ?_⟩⟩
          rw [decide_eq_true (show V.int (0 : Int) = V.int 0 from rfl)]
          exact iteT ⟨_, rfl, by show 1 ≤ 1000; decide, raise_err q⟩
        · have e : (decide ((0 : Int) ≤ i) && decide (i < 3 + 1)) = false := by
            cases hd : decide ((0 : Int) ≤ i) with
            | false => rfl
            | true =>
              rw [Bool.true_and]
              have := of_decide_eq_true hd
              exact decide_eq_false fun h => hi ⟨by omega, by omega⟩
          rw [e]
          exact ⟨_, rfl, iteT ⟨_, rfl, by show 1 ≤ 1000; decide, raise_err q⟩⟩
      · refine ⟨_, rfl, _, _, rfl, rfl, _, _, rfl, .inr ⟨hb, ?_⟩⟩
        exact ⟨_, rfl, iteT ⟨_, rfl, by show 1 ≤ 1000; decide, raise_err q⟩⟩
theorem ok_owner {f : Addr} {fd : FuncData} (F : Fun K "owner" "Book.owner" mOwner f fd) (B : BF K mg CB) : FnOk P w K mg base CX0 1 f fd ["self"] (spProp CB "owner") := by
  refine F.ok scOwner (fun vs H Q E h => ?_) (fun cdv A outer s H vs Q E hr h => ?_)
  · obtain ⟨x, wd, rfl, _⟩ := h
    rfl
  · obtain ⟨x, wd, rfl, ⟨dx, d, hx, hd⟩, q⟩ := h
    refine ⟨_, pss_one (ps_ret (pe_dget (hu_of hr) (pe_fld (pv 0) rfl) pe_str (fun _ _ => rfl))), ?_⟩
    exact ⟨_, rfl, x, CB, dx, _, _, rfl, hx, B.cl, B.nC, rfl, d, _, rfl, (Wds.get wd (p := "owner") (by decide +kernel)) ▸ DGet.k (k := Sum.inr "owner") hd, q⟩
theorem ok_look {f : Addr} {fd : FuncData} (F : Fun K "look" "Book.look" mLook f fd) (B : BF K mg CB) : FnOk P w K mg base CX0 1 f fd ["self"] (spProp CB "look") := by
  refine F.ok scLook (fun vs H Q E h => ?_) (fun cdv A outer s H vs Q E hr h => ?_)
  · obtain ⟨x, wd, rfl, _⟩ := h
    rfl
  · obtain ⟨x, wd, rfl, ⟨dx, d, hx, hd⟩, q⟩ := h
    refine ⟨_, pss_one (ps_ret (pe_dget (hu_of hr) (pe_fld (pv 0) rfl) pe_str (fun _ _ => rfl))), ?_⟩
    exact ⟨_, rfl, x, CB, dx, _, _, rfl, hx, B.cl, B.nC, rfl, d, _, rfl, (Wds.get wd (p := "look") (by decide +kernel)) ▸ DGet.k (k := Sum.inr "look") hd, q⟩
theorem ok_choose {f : Addr} {fd : FuncData} (F : Fun K "choose" "Book.choose" mChoose f fd) (B : BF K mg CB) : FnOk P w K mg base CX0 1 f fd ["self"] (spProp CB "choose") := by
  refine F.ok scChoose (fun vs H Q E h => ?_) (fun cdv A outer s H vs Q E hr h => ?_)
  · obtain ⟨x, wd, rfl, _⟩ := h
    rfl
  · obtain ⟨x, wd, rfl, ⟨dx, d, hx, hd⟩, q⟩ := h
    refine ⟨_, pss_one (ps_ret (pe_dget (hu_of hr) (pe_fld (pv 0) rfl) pe_str (fun _ _ => rfl))), ?_⟩
    exact ⟨_, rfl, x, CB, dx, _, _, rfl, hx, B.cl, B.nC, rfl, d, _, rfl, (Wds.get wd (p := "choose") (by decide +kernel)) ▸ DGet.k (k := Sum.inr "choose") hd, q⟩
theorem ok_early {f : Addr} {fd : FuncData} (F : Fun K "early" "Book.early" mEarly f fd) (B : BF K mg CB) : FnOk P w K mg base CX0 1 f fd ["self"] (spProp CB "early") := by
  refine F.ok scEarly (fun vs H Q E h => ?_) (fun cdv A outer s H vs Q E hr h => ?_)
  · obtain ⟨x, wd, rfl, _⟩ := h
    rfl
  · obtain ⟨x, wd, rfl, ⟨dx, d, hx, hd⟩, q⟩ := h
    refine ⟨_, pss_one (ps_ret (pe_dget (hu_of hr) (pe_fld (pv 0) rfl) pe_str (fun _ _ => rfl))), ?_⟩
    exact ⟨_, rfl, x, CB, dx, _, _, rfl, hx, B.cl, B.nC, rfl, d, _, rfl, (Wds.get wd (p := "early") (by decide +kernel)) ▸ DGet.k (k := Sum.inr "early") hd, q⟩
/-- a property with its getter -/
structure PrG (P : Program) (w : World) (K : PySem.W.Frag) (mg : Str → Option Value) (base : Heap) (CB : Addr) (p : Str) (pa f : Addr) (fd : FuncData) : Prop where
  po : PropOf K CB p pa f
  b : Binds K fd ["self"] []
  g : FnOk P w K mg base CX0 1 f fd ["self"] (spProp CB p)
theorem ok_reason {f p1 p2 p3 g1 g2 g3 : Addr} {fd d1 d2 d3 : FuncData} (F : Fun K "reason_for" "reason_for" sReason f fd) (B : BF K mg CB) (R1 : PrG P w K mg base CB "look" p1 g1 d1) (R2 : PrG P w K mg base CB "choose" p2 g2 d2) (R3 : PrG P w K mg base CB "early" p3 g3 d3) :
    FnOk P w K mg base CX0 3 f fd ["book"] (spReason CB) := by
  refine F.ok scReason (fun vs H Q E h => ?_) (fun cdv A outer s H vs Q E hr h => ?_)
  · obtain ⟨x, wd, rfl, _⟩ := h
    rfl
  · obtain ⟨x, wd, rfl, hb, q⟩ := h
    have hb' := hb
    obtain ⟨dx, d, hx, hd⟩ := hb'
    refine ⟨_, pss_cons (ps_if (PW.pt (pw_and (pt_cmpR op_eq (pe_prop (pv 0) B.cl R1.po R1.g hr R1.b .nil pass0 rfl) pe_str (nomark _)) (pw_and (pt_cmpR op_eq (pe_prop (pv 0) B.cl R2.po R2.g hr R2.b .nil pass0 rfl) pe_str (nomark _)) (pw_and1 (pt_cmpR op_eq (pe_prop (pv 0) B.cl R3.po R3.g hr R3.b .nil pass0 rfl) pe_str (nomark _))))))
        (pss_one (ps_ret pe_str)) pss_nil)
      (pss_cons (ps_if (pt_cmpR op_ne (pe_prop (pv 0) B.cl R1.po R1.g hr R1.b .nil pass0 rfl) pe_str (nomark _)) (pss_one (ps_ret pe_non)) pss_nil)
      (pss_cons (ps_if (pt_cmpR op_ne (pe_prop (pv 0) B.cl R2.po R2.g hr R2.b .nil pass0 rfl) pe_str (nomark _)) (pss_one (ps_ret pe_str)) pss_nil)
      (pss_one (ps_ret (pe_ifExp (pt_cmpR op_eq (pe_prop (pv 0) B.cl R3.po R3.g hr R3.b .nil pass0 rfl) pe_str (nomark _)) pe_non pe_str))))), ?_⟩
    unfold reasonW at q
    have r0 : True := trivial
    by_cases h1 : wd.l = "ladder"
    · have h1a : ¬ wd.l = "apart" := by
        rw [h1]
        decide +kernel
      refine ⟨_, rfl, x, dx, _, rfl, hx, x, wd, rfl, hb, rfl, _, rfl, ?_⟩
      rw [dec_str, at_look, decide_eq_true h1]
      by_cases h2 : wd.c = "special"
      · refine iteT ⟨_, rfl, x, dx, _, rfl, hx, x, wd, rfl, hb, rfl, _, rfl, ?_⟩
        rw [dec_str, at_choose, decide_eq_true h2]
        by_cases h3 : wd.e = "refused"
        · rw [if_pos ⟨h1, h2, h3⟩] at q
          refine iteT ⟨_, rfl, x, dx, _, rfl, hx, x, wd, rfl, hb, rfl, _, rfl, ?_⟩
          rw [dec_str, at_early, decide_eq_true h3]
          exact iteT q
        · rw [if_neg fun z => h3 z.2.2, if_pos h1a] at q
          refine iteT ⟨_, rfl, x, dx, _, rfl, hx, x, wd, rfl, hb, rfl, _, rfl, ?_⟩
          rw [dec_str, at_early, decide_eq_false h3]
          refine iteF ⟨_, rfl, x, dx, _, rfl, hx, x, wd, rfl, hb, rfl, _, rfl, ?_⟩
          rw [dec_str, at_look, decide_eq_false h1a]
          exact iteT q
      · rw [if_neg fun z => h2 z.2.1, if_pos h1a] at q
        refine iteT ⟨_, rfl, x, dx, _, rfl, hx, x, wd, rfl, hb, rfl, _, rfl, ?_⟩
        rw [dec_str, at_choose, decide_eq_false h2]
        refine iteF ⟨_, rfl, x, dx, _, rfl, hx, x, wd, rfl, hb, rfl, _, rfl, ?_⟩
        rw [dec_str, at_look, decide_eq_false h1a]
        exact iteT q
    · rw [if_neg fun z => h1 z.1] at q
      refine ⟨_, rfl, x, dx, _, rfl, hx, x, wd, rfl, hb, rfl, _, rfl, ?_⟩
      rw [dec_str, at_look, decide_eq_false h1]
      refine iteF ⟨_, rfl, x, dx, _, rfl, hx, x, wd, rfl, hb, rfl, _, rfl, ?_⟩
      by_cases h4 : wd.l = "apart"
      · rw [if_neg fun z => z h4] at q
        rw [dec_str, at_look, decide_eq_true h4]
        refine iteF ⟨_, rfl, x, dx, _, rfl, hx, x, wd, rfl, hb, rfl, _, rfl, ?_⟩
        by_cases h5 : wd.c = "first"
        · rw [if_neg fun z => z h5] at q
          rw [dec_str, at_choose, decide_eq_true h5]
          refine iteF ⟨_, rfl, x, dx, _, rfl, hx, x, wd, rfl, hb, rfl, _, rfl, ?_⟩
          by_cases h6 : wd.e = "once"
          · rw [if_pos h6] at q
            rw [dec_str, at_early, decide_eq_true h6]
            exact iteT q
          · rw [if_neg h6] at q
            rw [dec_str, at_early, decide_eq_false h6]
            exact iteF q
        · rw [if_pos h5] at q
          rw [dec_str, at_choose, decide_eq_false h5]
          exact iteT q
      · rw [if_pos h4] at q
        rw [dec_str, at_look, decide_eq_false h4]
        exact iteT q
end
end K1
namespace K1
open PySem PySem.Spec PyProof.Rows L2 Bk
theorem scLetBy : FnScope ["owner", "shape"] ["owner", "shape"] (defScope sLetBy) := ⟨rfl, rfl, rfl, by decide +kernel, rfl, by decide +kernel, by decide +kernel⟩
theorem scShapes : FnScope ["book", "places", "rows", "_", "row", "word"] ["book", "places"] (defScope sShapes) := ⟨rfl, rfl, rfl, by decide +kernel, rfl, by decide +kernel, by decide +kernel⟩
def shW : List Str := ["own", "seen", "any"]
def earlyB : List Str → Bool
  | [] => false
  | w :: r => if w = "seen" then earlyB r else decide (w = "own")
/-- whether an owner lets a shape -/
def letB (o : Str) (r : List Str) : Bool := if o = "anybody" then true else if o = "any" then decide (("own" : Str) ∈ r) else if o = "first" then decide (r.head? = some ("own" : Str)) else earlyB r
theorem own_cases {w : Str} (h : w ∈ shW) : w = "own" ∨ w = "seen" ∨ w = "any" := by
  unfold shW at h
  simp only [List.mem_cons, List.not_mem_nil, or_false] at h
  exact h
theorem early_none : ∀ r : List Str, (∀ w ∈ r, w ∈ shW) → ("own" : Str) ∉ r → earlyB r = false
  | [], _, _ => rfl
  | w :: r, h, hn => by
    have n1 : ¬ (w = "own") := fun e => hn (by rw [e]; exact List.mem_cons_self)
    unfold earlyB
    by_cases hs : w = "seen"
    · rw [if_pos hs]
      exact early_none r (fun x hx => h x (List.mem_cons_of_mem _ hx)) fun hx => hn (List.mem_cons_of_mem _ hx)
    · rw [if_neg hs]
      exact decide_eq_false n1
theorem early_first : ∀ r : List Str, (∀ w ∈ r, w ∈ shW) → ("own" : Str) ∈ r → ∃ j : Nat, r[j]? = some ("own" : Str) ∧ (∀ m, m < j → r[m]? ≠ some ("own" : Str)) ∧ (!decide (("any" : Str) ∈ r.take j)) = earlyB r
  | [], _, h => by cases h
  | w :: r, h, hm => by
    have ns : ¬ (("own" : Str) = "seen") := by decide +kernel
    have na : ¬ (("any" : Str) = "own") := by decide +kernel
    have nas : ¬ (("any" : Str) = "seen") := by decide +kernel
    by_cases h0 : w = "own"
    · subst h0
      refine ⟨0, rfl, fun m hm => absurd hm (Nat.not_lt_zero _), ?_⟩
      unfold earlyB
      rw [if_neg ns, decide_eq_true (show ("own" : Str) = "own" from rfl)]
      rfl
    · have hr : ("own" : Str) ∈ r := by
        rcases List.mem_cons.mp hm with e | e
        · exact absurd e.symm h0
        · exact e
      obtain ⟨j, j1, j2, j3⟩ := early_first r (fun x hx => h x (List.mem_cons_of_mem _ hx)) hr
      refine ⟨j + 1, j1, fun m hm e => ?_, ?_⟩
      · cases m with
        | zero =>
          have : w = "own" := by simpa using e
          exact h0 this
        | succ m => exact j2 m (by omega) e
      · rw [List.take_succ_cons]
        unfold earlyB
        by_cases hs : w = "seen"
        · rw [if_pos hs, ← j3]
          congr 1
          rw [decide_eq_decide]
          constructor
          · intro z
            rcases List.mem_cons.mp z with e | e
            · exact absurd (e.trans hs) nas
            · exact e
          · exact List.mem_cons_of_mem _
        · rw [if_neg hs, decide_eq_false h0]
          have hw : w = "any" := by
            rcases own_cases (h w List.mem_cons_self) with e | e | e
            · exact absurd e h0
            · exact absurd e hs
            · exact e
          rw [decide_eq_true (show ("any" : Str) ∈ w :: List.take j r by rw [hw]; exact List.mem_cons_self)]
          rfl
theorem cut_take (xs : List V) (j : Nat) : cutV xs none (some (j : Int)) = xs.take j := by
  unfold cutV
  rw [show HT.sIx xs.length xs.length (some (j : Int)) = min j xs.length from HT.sIx_nat _ _ j, HT.sIx_none, List.drop_zero, Nat.sub_zero]
  rw [← List.take_take, List.take_length]
def spLetBy : Sp := fun vs H Q _ => ∃ (o : Str) (p : Addr) (r : List Str), vs = [.str o, .ref p] ∧ TupF H p (r.map V.str) ∧ o ∈ oW ∧ r ≠ [] ∧ (∀ w ∈ r, w ∈ shW) ∧ ∀ H', Same H H' → Q (.bl (letB o r)) H'
section
variable {P : Program} {w : World} {K : PySem.W.Frag} {mg : Str → Option Value} {base : Heap} {CB CE CP fE fP : Addr}
theorem ok_letBy {f : Addr} {fd : FuncData} (F : Fun K "_is_let_by" "_is_let_by" sLetBy f fd) : FnOk P w K mg base CX0 1 f fd ["owner", "shape"] spLetBy := by
  refine F.ok scLetBy (fun vs H Q E h => ?_) (fun cdv A outer s H vs Q E hr h => ?_)
  · obtain ⟨o, p, r, rfl, _⟩ := h
    rfl
  · obtain ⟨o, p, r, rfl, hp, ho, hne, hw, q⟩ := h
    have hu := hu_of hr
    refine ⟨_, pss_cons (ps_if (pt_cmpR op_eq (pv 0) pe_str (nomark _)) (pss_one (ps_ret pe_bl)) pss_nil)
      (pss_cons (ps_if (pt_cmpR op_eq (pv 0) pe_str (nomark _)) (pss_one (ps_ret (pe_cmpR op_in_seq pe_str (pv 1) (by rfl)))) pss_nil)
      (pss_cons (ps_if (pt_cmpR op_eq (pv 0) pe_str (nomark _)) (pss_one (ps_ret (pe_cmpR op_eq (pe_ix ix_tup (pv 1) pe_int (fun _ _ => rfl)) pe_str (nomark _)))) pss_nil)
      (pss_one (ps_ret (pe_and (pe_cmpR op_in_seq pe_str (pv 1) (by rfl)) (pe_one (pe_cmpR op_notIn_seq pe_str (pe_slice sl_tupA (pv 1) po_none (po_some (pe_bmF PySem.F.plainAttrs_tuple PySem.F.slot_tuple_index PySem.F.type_tuple_index mt_tup_index (pv 1) (pa_cons pe_str pa_nil)))) (by rfl)))))))), ?_⟩
    have q0 := q H (Same.refl H)
    unfold letB at q0 q
    refine ⟨_, rfl, rfl, _, rfl, ?_⟩
    rw [dec_str]
    by_cases h1 : o = "anybody"
    · rw [if_pos h1] at q0
      rw [decide_eq_true h1]
      exact iteT q0
    rw [if_neg h1] at q0 q
    rw [decide_eq_false h1]
    refine iteF ⟨_, rfl, rfl, _, rfl, ?_⟩
    rw [dec_str]
    by_cases h2 : o = "any"
    · rw [if_pos h2] at q0
      rw [decide_eq_true h2]
      refine iteT ⟨_, rfl, p, _, rfl, .inr (hp.sq), rfl, flat_strs _, ?_⟩
      rw [in_strs]
      exact q0
    rw [if_neg h2] at q0 q
    rw [decide_eq_false h2]
    refine iteF ⟨_, rfl, rfl, _, rfl, ?_⟩
    rw [dec_str]
    by_cases h3 : o = "first"
    · rw [if_pos h3] at q0
      rw [decide_eq_true h3]
      cases r with
      | nil => exact absurd rfl hne
      | cons a r =>
        refine iteT ⟨_, rfl, p, _, (0 : Int), .str a, rfl, rfl, hp.sq, atI_nat (j := 0) rfl, rfl, ?_⟩
        rw [dec_str]
        rw [show decide ((a :: r).head? = some ("own" : Str)) = decide (a = "own") by rw [decide_eq_decide]; simp] at q0
        exact q0
    rw [if_neg h3] at q0 q
    rw [decide_eq_false h3]
    refine iteF ⟨_, rfl, p, _, rfl, .inr (hp.sq), rfl, flat_strs _, _, rfl, ?_⟩
    rw [if_neg Bool.false_ne_true, in_strs]
    by_cases h4 : ("own" : Str) ∈ r
    · rw [decide_eq_true h4]
      obtain ⟨j, j1, j2, j3⟩ := early_first r hw h4
      refine iteT ⟨_, rfl, _, rfl, ⟨p, _, rfl, hp⟩, p, r, "own", j, rfl, rfl, hp.sq, j1, j2, (j : Int), rfl, p, _, rfl, hp.sq, fun wh => ?_, fun _ p2 np2 => ?_⟩
      · have hz : j = r.length := by
          have := wh.2
          rw [show HT.sIx (r.map V.str).length (r.map V.str).length (some (j : Int)) = min j (r.map V.str).length from HT.sIx_nat _ _ j, List.length_map] at this
          have := (List.getElem?_eq_some_iff.mp j1).1
          omega
        have := (List.getElem?_eq_some_iff.mp j1).1
        omega
      · have e : cutV (r.map V.str) none (some (j : Int)) = (r.take j).map V.str := by rw [cut_take, List.map_take]
        rw [e]
        refine ⟨p2, _, rfl, .inr (SqT.of upd_same), rfl, flat_strs _, ?_⟩
        rw [if_pos rfl, in_strs, j3]
        exact q _ (same_new np2)
    · rw [decide_eq_false h4]
      rw [early_none r hw h4] at q0
      exact iteF q0
end
end K1
namespace K1
open PySem PySem.Spec PyProof.Rows L2 Bk
/-- at qs: tuples of the texts rs -/
def Tups (H : Hp) (qs : List Addr) (rs : List (List Str)) : Prop := qs.length = rs.length ∧ ∀ (i : Nat) (q : Addr), qs[i]? = some q → ∃ r, rs[i]? = some r ∧ TupF H q (r.map V.str)
theorem Tups.same {H H' : Hp} {qs : List Addr} {rs : List (List Str)} (h : Tups H qs rs) (s : Same H H') : Tups H' qs rs := ⟨h.1, fun i q e => let ⟨r, a, b⟩ := h.2 i q e; ⟨r, a, b.same s⟩⟩
theorem Tups.app {H : Hp} {qs : List Addr} {rs : List (List Str)} {q : Addr} {r : List Str} (h : Tups H qs rs) (t : TupF H q (r.map V.str)) : Tups H (qs ++ [q]) (rs ++ [r]) := by
  refine ⟨by rw [List.length_append, List.length_append, h.1]; rfl, fun i q' e => ?_⟩
  by_cases hi : i < qs.length
  · rw [List.getElem?_append_left hi] at e
    obtain ⟨r', a, b⟩ := h.2 i q' e
    exact ⟨r', by rw [List.getElem?_append_left (by rw [← h.1]; exact hi)]; exact a, b⟩
  · rw [List.getElem?_append_right (by omega)] at e
    have hz : i - qs.length = 0 := by
      cases hk : i - qs.length with
      | zero => rfl
      | succ k =>
        rw [hk] at e
        simp at e
    rw [hz] at e
    have e' : q = q' := by simpa using e
    subst e'
    refine ⟨r, ?_, t⟩
    rw [List.getElem?_append_right (by rw [← h.1]; omega), ← h.1, hz]
    rfl
theorem Tups.nil {H : Hp} : Tups H [] [] := ⟨rfl, fun i q e => by simp at e⟩
theorem Tups.at {H : Hp} {qs : List Addr} {rs : List (List Str)} (h : Tups H qs rs) {i : Nat} {r : List Str} (e : rs[i]? = some r) : ∃ q, qs[i]? = some q ∧ TupF H q (r.map V.str) := by
  have hi : i < qs.length := by rw [h.1]; exact (List.getElem?_eq_some_iff.mp e).1
  obtain ⟨r', a, b⟩ := h.2 i qs[i] (List.getElem?_eq_getElem hi)
  rw [e] at a
  cases a
  exact ⟨_, List.getElem?_eq_getElem hi, b⟩
theorem same_upd {H0 H : Hp} {D : Addr} {o : HO} (s : Same H0 H) (n : H0 D = none) : Same H0 (upd H D o) := fun b x e => by
  rw [upd_ne (ne_of_none e n)]
  exact s b x e
def stepR (rs : List (List Str)) : List (List Str) := rs.flatMap fun r => shW.map fun w => r ++ [w]
def allR : Nat → List (List Str)
  | 0 => [[]]
  | n + 1 => stepR (allR n)
def shapesL (o : Str) (n : Nat) : List (List Str) := (allR n).filter (letB o)
theorem stepR_mem {rs : List (List Str)} {n : Nat} (h : ∀ r ∈ rs, r.length = n ∧ ∀ w ∈ r, w ∈ shW) : ∀ r ∈ stepR rs, r.length = n + 1 ∧ ∀ w ∈ r, w ∈ shW := by
  intro r hr
  unfold stepR at hr
  rw [List.mem_flatMap] at hr
  obtain ⟨a, ha, hr⟩ := hr
  rw [List.mem_map] at hr
  obtain ⟨x, hx, rfl⟩ := hr
  obtain ⟨h1, h2⟩ := h a ha
  refine ⟨by rw [List.length_append, h1]; rfl, fun w hw => ?_⟩
  rcases List.mem_append.mp hw with hw | hw
  · exact h2 w hw
  · rw [List.mem_singleton.mp hw]
    exact hx
theorem allR_mem : ∀ n : Nat, ∀ r ∈ allR n, r.length = n ∧ ∀ w ∈ r, w ∈ shW
  | 0 => fun r hr => by
    have : r = [] := List.mem_singleton.mp hr
    subst this
    exact ⟨rfl, fun w hw => by cases hw⟩
  | n + 1 => stepR_mem (allR_mem n)
theorem stepR_len (rs : List (List Str)) : (stepR rs).length = 3 * rs.length := by
  unfold stepR
  induction rs with
  | nil => rfl
  | cons a rs ih =>
    rw [List.flatMap_cons, List.length_append, ih, List.length_map, List.length_cons]
    show 3 + _ = _
    omega
theorem allR_len : ∀ n : Nat, (allR n).length = 3 ^ n
  | 0 => rfl
  | n + 1 => by
    show (stepR (allR n)).length = _
    rw [stepR_len, allR_len n, Nat.pow_succ, Nat.mul_comm]
theorem allR_small {n : Nat} (h : n ≤ 3) : (allR n).length ≤ 27 := by
  rw [allR_len]
  have : n = 0 ∨ n = 1 ∨ n = 2 ∨ n = 3 := by omega
  rcases this with rfl | rfl | rfl | rfl <;> decide
theorem stepR_take {rs : List (List Str)} {i : Nat} {r : List Str} (e : rs[i]? = some r) : stepR (rs.take (i + 1)) = stepR (rs.take i) ++ shW.map fun w => r ++ [w] := by
  unfold stepR
  rw [List.take_add_one, e, Option.toList_some, List.flatMap_append, List.flatMap_cons, List.flatMap_nil, List.append_nil]
theorem stepR_take_len (rs : List (List Str)) (i : Nat) : (stepR (rs.take i)).length ≤ 3 * rs.length := by
  rw [stepR_len, List.length_take]
  omega
def spShapes (K : PySem.W.Frag) (CB CE CP : Addr) : Sp := fun vs H Q E => ∃ x y, vs = [x, y] ∧ ((∃ (a : Addr) (wd : Wds) (n : Nat), x = .ref a ∧ BookAt CB H a wd ∧ wd.Ok ∧ y = .int (n : Int) ∧ 1 ≤ n ∧ n ≤ 3 ∧
    ∀ (l : Addr) (ps : List Addr) (H' : Hp), H l = none → Same H H' → H' l = some (.lst (ps.map V.ref)) → Tups H' ps (shapesL wd.o n) → Q (.ref l) H') ∨
  (NotB K CB H x ∧ Thr CE "part" .non H E) ∨ ∃ (a : Addr) (wd : Wds), x = .ref a ∧ BookAt CB H a wd ∧ NotP K H y ∧ Thr CP "value" y H E)
/-- within the making of longer rows -/
def PvS (H : Hp) (l D : Addr) (ps : List Addr) (rs : List (List Str)) (j : Nat) (H' : Hp) : Prop := Same H H' ∧ H' l = some (.lst (ps.map V.ref)) ∧ Tups H' ps rs ∧ ∃ qs : List Addr, H' D = some (.lst (qs.map V.ref)) ∧ Tups H' qs (stepR (rs.take j))
/-- within the choice of rows -/
def PvF (H : Hp) (l D : Addr) (ps : List Addr) (rs : List (List Str)) (o : Str) (j : Nat) (H' : Hp) : Prop := Same H H' ∧ H' l = some (.lst (ps.map V.ref)) ∧ Tups H' ps rs ∧ ∃ qs : List Addr, H' D = some (.lst (qs.map V.ref)) ∧ Tups H' qs ((rs.take j).filter (letB o))
theorem filter_take {rs : List (List Str)} {p : List Str → Bool} {i : Nat} {r : List Str} (e : rs[i]? = some r) : (rs.take (i + 1)).filter p = (rs.take i).filter p ++ (if p r = true then [r] else []) := by
  rw [List.take_add_one, e, Option.toList_some, List.filter_append]
  congr 1
  by_cases h : p r = true
  · rw [if_pos h, List.filter_cons_of_pos h]
    rfl
  · rw [if_neg h, List.filter_cons_of_neg h]
    rfl
theorem ref_at {ps : List Addr} {j : Nat} {x : V} (h : (ps.map V.ref)[j]? = some x) : ∃ q, ps[j]? = some q ∧ x = .ref q := by
  rw [List.getElem?_map] at h
  cases hp : ps[j]? with
  | none => rw [hp] at h; cases h
  | some q => rw [hp] at h; cases h; exact ⟨q, rfl, rfl⟩
/-- a list is written: the tuples stand -/
theorem Tups.lst {H : Hp} {qs : List Addr} {rs : List (List Str)} {D : Addr} {xs ys : List V} (h : Tups H qs rs) (hD : H D = some (.lst xs)) : Tups (upd H D (.lst ys)) qs rs := ⟨h.1, fun i q e => by
  obtain ⟨r, a1, o, a2, a3⟩ := h.2 i q e
  refine ⟨r, a1, o, ?_, a3⟩
  have : q ≠ D := fun e => by
    rw [e, hD] at a2
    cases a2
  rw [upd_ne this]
  exact a2⟩
/-- the words of a shape as they stand in the module -/
structure ShF (K : PySem.W.Frag) (mg : Str → Option Value) (TS : Addr) : Prop where
  g : mg "SHAPE_WORDS" = some (.ref TS)
  sq : ∀ H, SqT K H TS (shW.map V.str)
section
variable {P : Program} {w : World} {K : PySem.W.Frag} {mg : Str → Option Value} {base : Heap} {CB CE CP TS : Addr}
theorem ok_shapes {f fB fP fL p1 g1 : Addr} {fd fdB fdP fdL d1 : FuncData} (F : Fun K "shapes" "shapes" sShapes f fd) (T : Tx mg) (B : BF K mg CB) (Z : ShF K mg TS) (R : PrG P w K mg base CB "owner" p1 g1 d1)
    (mB : mg "check_book" = some (.ref fB)) (kB : PySem.W.keepIn K (.ref fB) = true) (bB : Binds K fdB ["book"] []) (GB : FnOk P w K mg base (CX P w) 3 fB fdB ["book"] (spChkB K CB CE))
    (mP : mg "check_places" = some (.ref fP)) (kP : PySem.W.keepIn K (.ref fP) = true) (bP : Binds K fdP ["places"] []) (GP : FnOk P w K mg base (CX P w) 3 fP fdP ["places"] (spChkP K CP))
    (mL : mg "_is_let_by" = some (.ref fL)) (kL : PySem.W.keepIn K (.ref fL) = true) (bL : Binds K fdL ["owner", "shape"] []) (GL : FnOk P w K mg base CX0 1 fL fdL ["owner", "shape"] spLetBy) :
    FnOk P w K mg base (CX P w) 4 f fd ["book", "places"] (spShapes K CB CE CP) := by
  refine F.okX scShapes (fun vs H Q E h => ?_) (fun cdv A outer s H vs Q E hr h => ?_)
  · obtain ⟨x, y, rfl, _⟩ := h
    rfl
  · obtain ⟨x, y, rfl, h⟩ := h
    refine ⟨_, pss_cons (ps_expr (pe_call GB hr (by rfl) mB kB bB .nil (passes_call (takes_of rfl rfl rfl rfl) (fun _ _ _ _ z => z)) (pa_cons (pv 0) pa_nil)))
      (pss_cons (ps_expr (pe_call GP hr (by rfl) mP kP bP .nil (passes_call (takes_of rfl rfl rfl rfl) (fun _ _ _ _ z => z)) (pa_cons (pv 1) pa_nil)))
      (pss_cons (ps_set (i := 2) scShapes.nd rfl (Or.inl rfl) (pe_lst (pa_cons (pe_tupF pa_nil) pa_nil)))
      (pss_cons (ps_for (passes_of rfl) rfl (pi_range1 (by rfl) T.range (pa_cons (pv 1) pa_nil)) (pg_name (i := 3) scShapes.nd rfl (Or.inl rfl))
        (pss_one (ps_setLc2 (i := 2) (own := [("row", 4), ("word", 5)]) (vs1 := [5]) (g := gName 4) (g1 := gName 5) (tt := tYes) (tt1 := tYes) (wi1 := iTup K (tC (.ref TS))) (te := tTupF (StX.tStar K (tVar 4) (tCons (tVar 5) tNil))) rfl scShapes.nd rfl rfl (sw_true rfl rfl rfl (by decide +kernel)) (pi_list (pv 2))
          (blkOk_by (own := [("row", 4), ("word", 5)]) (N := ["book", "places", "rows", "_", "row", "word"]) (sc := defScope sShapes) (by decide +kernel)) (by decide)
          (fun _ _ _ _ _ => pg_name (i := 4) scShapes.nd rfl (Or.inl rfl)) (fun _ _ _ _ _ => pts_nil) (fun _ _ _ _ _ => pi_tup (pe_glob (v := .ref TS) (by rfl) Z.g rfl)) (fun _ _ _ _ _ => pg_name (i := 5) scShapes.nd rfl (Or.inl rfl)) (fun _ _ _ _ _ => pts_nil)
          (fun _ _ _ _ _ => pe_tupF (StX.pa_star (pv 4) (pa_cons (pv 5) pa_nil))))))
      (pss_one (ps_ret (pe_lc (own := [("row", 4)]) (g := gName 4) rfl scShapes.nd (pi_list (pv 2)) (blkOk_by (own := [("row", 4)]) (N := ["book", "places", "rows", "_", "row", "word"]) (sc := defScope sShapes) (by decide +kernel)) (fun _ _ _ _ _ => pg_name (i := 4) scShapes.nd rfl (Or.inl rfl))
        (fun _ _ _ _ _ => pts_one (pt_val (pe_call GL (hr.mono (by decide)) (by rfl) mL kL bL .nil pass0 (pa_cons (pe_prop (pv 0) B.cl R.po R.g (hr.mono (by decide)) R.b .nil pass0 rfl) (pa_cons (pv 4) pa_nil))))) (fun _ _ _ _ _ => pv 4))))))), ?_⟩
    rcases h with ⟨a, wd, n, rfl, hb, hok, rfl, n1, n3, q⟩ | ⟨hn, q⟩ | ⟨a, wd, rfl, hb, hn, q⟩
    · refine ⟨_, rfl, _, rfl, .inl ⟨a, wd, rfl, hb, _, rfl, _, rfl, .inl ⟨n, rfl, n1, n3, ?_⟩⟩⟩
      refine ⟨by show 0 ≤ sizeLine; decide, fun t0 o0 nt0 dn0 => ⟨by show 1 ≤ sizeLine; decide, fun l0 nl0 => ?_⟩⟩
      have s0 : Same H (upd (upd H t0 (.frz o0 (.tup []))) l0 (.lst [V.ref t0])) := (same_new nt0).trans (same_new nl0)
      have hl0 : H l0 = none := none_of (same_new nt0) nl0
      have ht0 : (upd (upd H t0 (.frz o0 (.tup []))) l0 (.lst [V.ref t0])) t0 = some (.frz o0 (.tup [])) := by
        rw [upd_ne (ne_of_none upd_same nl0)]
        exact upd_same
      refine ⟨_, rfl, (n : Int), rfl, by omega, by omega, for_range (n := n) (fun i σ H' => ∃ (l : Addr) (ps : List Addr) (v3 : Option V), σ = [some (.ref a), some (.int n), some (.ref l), v3, none, none] ∧ H l = none ∧ Same H H' ∧ H' l = some (.lst (ps.map V.ref)) ∧ Tups H' ps (allR i)) ⟨l0, [t0], none, rfl, hl0, s0, upd_same, ?_⟩ ?_ ?_⟩
      · refine ⟨rfl, fun i q' e => ?_⟩
        cases i with
        | zero =>
          have e' : t0 = q' := by simpa using e
          subst e'
          exact ⟨[], rfl, o0, ht0, dn0⟩
        | succ i => simp at e
      · rintro i σ H1 hi ⟨l, ps, v3, rfl, nl, s1, hl, hT⟩
        refine ⟨_, rfl, l, rfl, ⟨_, SqL.of hl⟩, fun D nD => ?_⟩
        have nD0 : H D = none := none_of s1 nD
        have hnl : l ≠ D := ne_of_none hl nD
        refine Tk.lc2_list (K := K) (a := l) (xs := ps.map V.ref) (PvS H l D ps (allR i))
          ⟨same_upd s1 nD0, by rw [upd_ne hnl]; exact hl, hT.same (same_new nD), [], upd_same, by rw [List.take_zero]; exact Tups.nil⟩ (fun j H' _ p => SqL.of p.2.1) ?_ ?_
        · rintro j x H2 hx ⟨s2, hl2, hT2, qs, hD, hQ⟩
          obtain ⟨q0, hq0, rfl⟩ : ∃ q0, ps[j]? = some q0 ∧ x = .ref q0 := by
            rw [List.getElem?_map] at hx
            cases hp : ps[j]? with
            | none => rw [hp] at hx; cases hx
            | some q0 => rw [hp] at hx; cases hx; exact ⟨q0, rfl, rfl⟩
          obtain ⟨r, hr1, hr2⟩ := hT2.2 j q0 hq0
          refine ⟨rfl, ?_⟩
          unfold tYes
          refine iteT ?_
          refine ⟨TS, rfl, ⟨_, Z.sq _⟩, ?_⟩
          refine Tk.in_tup (K := K) (b := TS) (ys := shW.map V.str) (D := D) (Nx := PvS H l D ps (allR i) (j + 1)) (g1 := gName 5) (tt1 := tYes) (vs1 := [5]) (te := tTupF (StX.tStar K (tVar 4) (tCons (tVar 5) tNil))) (σ2 := [some (V.ref a), some (V.int n), some (V.ref l), some (V.int (0 + i)), some (V.ref q0), none]) (fun k H' => Same H H' ∧ H' l = some (.lst (ps.map V.ref)) ∧ Tups H' ps (allR i) ∧ ∃ qs : List Addr, H' D = some (.lst (qs.map V.ref)) ∧ Tups H' qs (stepR ((allR i).take j) ++ (shW.take k).map fun w => r ++ [w])) ⟨s2, hl2, hT2, qs, hD, by rw [List.take_zero, List.map_nil, List.append_nil]; exact hQ⟩ (fun k H' _ _ => Z.sq H') ?_ ?_
          · rintro k y H3 hy ⟨s3, hl3, hT3, qs3, hD3, hQ3⟩
            obtain ⟨wk, hwk, rfl⟩ : ∃ wk, shW[k]? = some wk ∧ y = .str wk := by
              rw [List.getElem?_map] at hy
              cases hp : shW[k]? with
              | none => rw [hp] at hy; cases hy
              | some q0 => rw [hp] at hy; cases hy; exact ⟨q0, rfl, rfl⟩
            have hr3 : TupF H3 q0 (r.map V.str) := by
              obtain ⟨r', e1, e2⟩ := hT3.2 j q0 hq0
              rw [hr1] at e1
              cases e1
              exact e2
            have hlen := (allR_mem i r (List.mem_of_getElem? hr1)).1
            have hi3 : i < 3 := by omega
            refine ⟨rfl, ?_⟩
            unfold tYes
            refine iteT ?_
            refine ⟨_, rfl, q0, _, rfl, .inl hr3.sq, _, rfl, ?_, fun p ob np dn => ⟨qs3.map V.ref, ?_, ?_, ?_⟩⟩
            · rw [List.length_append, List.length_map, hlen]
              exact Nat.le_trans (show i + 1 ≤ 1000 by omega) (by decide)
            · rw [upd_ne (ne_of_none hD3 np)]
              exact hD3
            · rw [List.length_map, hQ3.1, List.length_append, List.length_map, List.length_take]
              have h1 := stepR_take_len (allR i) j
              have h2 := allR_small (n := i) (by omega)
              have h3 : min k shW.length ≤ 3 := Nat.min_le_right _ _
              exact small1000 (by omega)
            · have np0 : H p = none := none_of s3 np
              have npD : p ≠ D := (ne_of_none hD3 np).symm
              have sA : Same H3 (upd H3 p (.frz ob (.tup (r.map V.str ++ [V.str wk])))) := same_new np
              have sB : ∀ {qs' rs'}, Tups (upd H3 p (.frz ob (.tup (r.map V.str ++ [V.str wk])))) qs' rs' → Tups (upd (upd H3 p (.frz ob (.tup (r.map V.str ++ [V.str wk])))) D (.lst (qs3.map V.ref ++ [V.ref p]))) qs' rs' := fun {qs' rs'} h => ⟨h.1, fun i' q' e' => by
                obtain ⟨r', a1, o', a2, a3⟩ := h.2 i' q' e'
                refine ⟨r', a1, o', ?_, a3⟩
                have : q' ≠ D := fun e => by
                  rw [e, upd_ne npD.symm, hD3] at a2
                  cases a2
                rw [upd_ne this]
                exact a2⟩
              refine ⟨same_upd (same_upd s3 np0) nD0, ?_, sB (hT3.same sA), qs3 ++ [p], ?_, sB ?_⟩
              · rw [upd_ne hnl, upd_ne (ne_of_none hl3 np)]
                exact hl3
              · rw [upd_same, List.map_append]
                rfl
              · rw [List.take_add_one, hwk, Option.toList_some, List.map_append, ← List.append_assoc]
                refine (hQ3.same sA).app ⟨ob, ?_, dn⟩
                rw [List.map_append, upd_same]
                rfl
          · rintro H3 ⟨s3, hl3, hT3, qs3, hD3, hQ3⟩
            refine ⟨s3, hl3, hT3, qs3, hD3, ?_⟩
            rw [stepR_take hr1]
            have : shW.take (shW.map V.str).length = shW := List.take_of_length_le (by rw [List.length_map]; exact Nat.le_refl _)
            rw [this] at hQ3
            exact hQ3
        · rintro H2 ⟨s2, hl2, hT2, qs, hD, hQ⟩
          refine ⟨D, qs, _, rfl, nD0, s2, hD, ?_⟩
          have : (allR i).take (ps.map V.ref).length = allR i := List.take_of_length_le (by rw [List.length_map, hT.1]; exact Nat.le_refl _)
          rw [this] at hQ
          exact hQ
      · rintro σ H1 ⟨l, ps, v3, rfl, nl, s1, hl, hT⟩
        refine ⟨_, rfl, l, rfl, ⟨_, SqL.of hl⟩, fun D nD => ?_⟩
        have nD0 : H D = none := none_of s1 nD
        have hnl : l ≠ D := ne_of_none hl nD
        refine lc_list (K := K) (a := l) (xs := ps.map V.ref) (PvF H l D ps (allR n) wd.o) ⟨same_upd s1 nD0, by rw [upd_ne hnl]; exact hl, hT.same (same_new nD), [], upd_same, by rw [List.take_zero]; exact Tups.nil⟩ (fun j H' _ p => SqL.of p.2.1) ?_ ?_
        · rintro j x H2 hx ⟨s2, hl2, hT2, qs, hD, hQ⟩
          obtain ⟨q0, hq0, rfl⟩ := ref_at hx
          obtain ⟨r, hr1, hr2⟩ := hT2.2 j q0 hq0
          have hmem := allR_mem n r (List.mem_of_getElem? hr1)
          have hb2 := hb.same s2
          obtain ⟨dx, d, hx2, _⟩ := id hb2
          refine ⟨rfl, ?_⟩
          refine ⟨_, rfl, a, dx, _, rfl, hx2, a, wd, rfl, hb2, _, rfl, _, q0, r, rfl, hr2, by rw [at_owner]; exact hok.1, ?_, hmem.2, fun H3 s3 => ?_⟩
          · intro e
            rw [e] at hmem
            have := hmem.1
            simp at this
            omega
          refine ⟨_, rfl, ?_⟩
          rw [at_owner]
          have hD3 := s3 _ _ hD
          by_cases hc : letB wd.o r = true
          · rw [hc]
            refine iteT ⟨_, rfl, qs.map V.ref, hD3, ?_, ?_, ?_, ?_, qs ++ [q0], ?_, ?_⟩
            · rw [List.length_map, hQ.1]
              have h1 : (((allR n).take j).filter (letB wd.o)).length ≤ (allR n).length := Nat.le_trans (List.length_filter_le _ _) (by rw [List.length_take]; exact Nat.min_le_right _ _)
              have h2 := allR_small (n := n) n3
              exact small1000 (by omega)
            · exact same_upd (s2.trans s3) nD0
            · rw [upd_ne hnl]
              exact s3 _ _ hl2
            · exact (hT2.same s3).lst hD3
            · rw [upd_same, List.map_append]
              rfl
            · rw [filter_take hr1, if_pos hc]
              exact ((hQ.same s3).app (hr2.same s3)).lst hD3
          · have hc' : letB wd.o r = false := by simpa using hc
            rw [hc']
            refine iteF ⟨s2.trans s3, s3 _ _ hl2, hT2.same s3, qs, hD3, ?_⟩
            rw [filter_take hr1, if_neg hc, List.append_nil]
            exact hQ.same s3
        · rintro H2 ⟨s2, hl2, hT2, qs, hD, hQ⟩
          have : (allR n).take (ps.map V.ref).length = allR n := List.take_of_length_le (by rw [List.length_map, hT.1]; exact Nat.le_refl _)
          rw [this] at hQ
          exact q D qs H2 nD0 s2 hD hQ
    · exact ⟨_, rfl, _, rfl, .inr ⟨hn, q⟩⟩
    · exact ⟨_, rfl, _, rfl, .inl ⟨a, wd, rfl, hb, _, rfl, _, rfl, .inr ⟨hn, q⟩⟩⟩
end
end K1
namespace K1
open PySem PySem.Spec PyProof.Rows L2 Bk
theorem scMEq : FnScope ["self", "other"] ["self", "other"] (defScope mEq) := ⟨rfl, rfl, rfl, by decide +kernel, rfl, by decide +kernel, by decide +kernel⟩
theorem scDraw : FnScope ["_law_script", "_law_k", "_law_cell", "_law_seed"] ["_law_script", "_law_k"] (defScope sDraw) := ⟨rfl, rfl, rfl, by decide +kernel, rfl, by decide +kernel, by decide +kernel⟩
theorem scTake : FnScope ["_law_pool", "_law_many", "_law_digit"] ["_law_pool", "_law_many"] (defScope sTake) := ⟨rfl, rfl, rfl, by decide +kernel, rfl, by decide +kernel, by decide +kernel⟩
theorem scNewWords : FnScope ["_law_pool", "_law_owning", "_law_looking", "_law_choosing", "_law_needs"] ["_law_pool"] (defScope sNewWords) := ⟨rfl, rfl, rfl, by decide +kernel, rfl, by decide +kernel, by decide +kernel⟩
theorem scMade : FnScope ["_law_words"] ["_law_words"] (defScope sMade) := ⟨rfl, rfl, rfl, by decide +kernel, rfl, by decide +kernel, by decide +kernel⟩
/-- a pool stands at p -/
def Pool (H : Hp) (p : Addr) : Prop := ∃ g s : Int, H p = some (.lst [.int g, .int s]) ∧ 0 ≤ s ∧ s < 2147483647
/-- all but p is as it was -/
def KeepP (p : Addr) (H H' : Hp) : Prop := ∀ b o, b ≠ p → H b = some o → H' b = some o
theorem KeepP.refl (p : Addr) (H : Hp) : KeepP p H H := fun _ _ _ h => h
theorem KeepP.trans {p : Addr} {H H1 H2 : Hp} (a : KeepP p H H1) (b : KeepP p H1 H2) : KeepP p H H2 := fun c o n h => b c o n (a c o n h)
theorem KeepP.upd {p : Addr} {H : Hp} {o : HO} : KeepP p H (upd H p o) := fun b _ n h => by
  rw [upd_ne n]
  exact h
theorem KeepP.same {p : Addr} {H H' : Hp} (h : Same H H') : KeepP p H H' := fun b o _ e => h b o e
theorem KeepP.new {p q : Addr} {H : Hp} {o : HO} (h : H q = none) : KeepP p H (L2.upd H q o) := KeepP.same (same_new h)
theorem Pool.same {p : Addr} {H H' : Hp} (h : Pool H p) (s : Same H H') : Pool H' p := let ⟨g, z, e, r⟩ := h; ⟨g, z, s _ _ e, r⟩
/-- an address that is new now was new ahead -/
theorem KeepP.none {p q : Addr} {H H' : Hp} (k : KeepP p H H') (hp : Pool H' p) (h : H' q = Option.none) : H q = Option.none := by
  cases e : H q with
  | none => rfl
  | some o =>
    have nq : q ≠ p := fun z => by
      obtain ⟨_, _, e2, _⟩ := hp
      rw [z, e2] at h
      cases h
    have := k q o nq e
    rw [h] at this
    cases this
theorem KeepP.seq {K : PySem.W.Frag} {p a : Addr} {H H' : Hp} {xs : List V} (k : KeepP p H H') (n : a ≠ p) (h : SqL K H a xs) : SqL K H' a xs := by
  rcases h with (h | ⟨o, h⟩) | h
  · exact .inl (.inl (k _ _ n h))
  · exact .inl (.inr ⟨o, k _ _ n h⟩)
  · exact .inr h
theorem seq_same {K : PySem.W.Frag} {a : Addr} {H H' : Hp} {xs : List V} (k : Same H H') (h : SqL K H a xs) : SqL K H' a xs := by
  rcases h with (h | ⟨o, h⟩) | h
  · exact .inl (.inl (k _ _ h))
  · exact .inl (.inr ⟨o, k _ _ h⟩)
  · exact .inr h
/-- == of two books with the same words -/
def spMEq (CB : Addr) : Sp := fun vs H Q _ => ∃ (x y : Addr) (wd : Wds), vs = [.ref x, .ref y] ∧ BookAt CB H x wd ∧ BookAt CB H y wd ∧ Q (.bl true) H
def spDraw (K : PySem.W.Frag) : Sp := fun vs H Q _ => ∃ (a : Addr) (ns : List Int) (k : Nat), vs = [.ref a, .int (k : Int)] ∧ SqL K H a (ns.map V.int) ∧ ns.length ≤ 1000 ∧ k < 100 ∧
  ∀ (p : Addr) (H' : Hp), H p = none → Same H H' → Pool H' p → Q (.ref p) H'
def spTake : Sp := fun vs H Q _ => ∃ (p : Addr) (m : Int), vs = [.ref p, .int m] ∧ Pool H p ∧ 0 < m ∧ m < 1073741824 ∧ ∀ (d : Int) (H' : Hp), 0 ≤ d → d < m → Pool H' p → KeepP p H H' → Q (.int d) H'
def spNewWords : Sp := fun vs H Q _ => ∃ p : Addr, vs = [.ref p] ∧ Pool H p ∧ ∀ (l : Addr) (wd : Wds) (H' : Hp), wd.Ok → H l = none → Pool H' p → KeepP p H H' → H' l = some (.lst (wd.list.map V.str)) → Q (.ref l) H'
def spMade (K : PySem.W.Frag) (CB : Addr) : Sp := fun vs H Q _ => ∃ (l : Addr) (wd : Wds), vs = [.ref l] ∧ SqL K H l (wd.list.map V.str) ∧ wd.Ok ∧ ∀ (x : Addr) (H' : Hp), H x = none → Same H H' → BookAt CB H' x wd → Q (.ref x) H'
theorem dp_ints {K : PySem.W.Frag} {H : Hp} : ∀ ns : List Int, DpAll K H (ns.map V.int) (ns.map PyData.int)
  | [] => .nil
  | n :: ns => .cons (.int n) (dp_ints ns)
theorem lay_ints : ∀ ns : List Int, PyData.canLayAll0 (ns.map PyData.int) = true
  | [] => rfl
  | n :: ns => by
    rw [List.map_cons, PyData.canLayAll0, lay_ints ns, PyData.canLay0]
    rfl
theorem dep_ints : ∀ ns : List Int, PyData.depthAll (ns.map PyData.int) = 0
  | [] => by rw [List.map_nil, PyData.depthAll]
  | n :: ns => by
    rw [List.map_cons, PyData.depthAll, dep_ints ns, PyData.depth]
    rfl
theorem shaped_ints (ns : List Int) : SeqAt.shaped (.list (ns.map PyData.int)) = true := by
  unfold SeqAt.shaped
  rw [PyData.canLay0, lay_ints, PyData.depth, dep_ints]
  decide
theorem kvs_self (wd : Wds) : ∀ q ∈ wd.kvs, valV wd.kvs q.1 = some q.2 ∧ flatB q.2 = true := by
  have g := kvs5_get (.str wd.o) (.str wd.l) (.str wd.c) (.str wd.n) (.str wd.e)
  intro q hq
  rw [Wds.kvs_eq] at hq ⊢
  have hq' := hq
  unfold kvs5 at hq'
  simp only [List.mem_cons, List.not_mem_nil, or_false] at hq'
  rcases hq' with rfl | rfl | rfl | rfl | rfl
  · exact ⟨g.1, rfl⟩
  · exact ⟨g.2.1, rfl⟩
  · exact ⟨g.2.2.1, rfl⟩
  · exact ⟨g.2.2.2.1, rfl⟩
  · exact ⟨g.2.2.2.2, rfl⟩
section
variable {P : Program} {w : World} {K : PySem.W.Frag} {mg : Str → Option Value} {base : Heap} {CB : Addr}
theorem ok_meq {f : Addr} {fd : FuncData} (F : Fun K "__eq__" "Book.__eq__" mEq f fd) (T : Tx mg) (B : BF K mg CB) : FnOk P w K mg base CX0 1 f fd ["self", "other"] (spMEq CB) := by
  refine F.ok scMEq (fun vs H Q E h => ?_) (fun cdv A outer s H vs Q E hr h => ?_)
  · obtain ⟨x, y, wd, rfl, _⟩ := h
    rfl
  · obtain ⟨x, y, wd, rfl, ⟨dx, d, hx, hd⟩, ⟨dy, e, hy, he⟩, q⟩ := h
    refine ⟨_, pss_one (ps_ret (pe_and (pe_callB call_isi (by rfl) T.isi (by decide +kernel) (pa_cons (pv 1) (pa_cons (pe_glob (v := .ref CB) (by rfl) B.gB rfl) pa_nil))) (pe_one (pe_cmpR (op_eq_dictA hr.units0) (pe_fld (pv 0) rfl) (pe_fld (pv 1) rfl) (nomark _))))), ?_⟩
    refine ⟨_, rfl, _, _, _, _, true, rfl, .own CB, .base (.ins hy B.cl B.ha B.hn B.htk B.hm), B.own, true, rfl, iteT ?_⟩
    exact ⟨_, rfl, x, CB, dx, _, _, rfl, hx, B.cl, B.nC, rfl, _, rfl, y, CB, dy, _, _, rfl, hy, B.cl, B.nC, rfl, d, e, _, _, rfl, rfl, hd, he, rfl, kvs_self wd, q⟩
theorem ok_draw {f : Addr} {fd : FuncData} (F : Fun K "_law_draw" "_law_draw" sDraw f fd) (T : Tx mg) : FnOk P w K mg base CX0 1 f fd ["_law_script", "_law_k"] (spDraw K) := by
  refine F.ok scDraw (fun vs H Q E h => ?_) (fun cdv A outer s H vs Q E hr h => ?_)
  · obtain ⟨a, ns, k, rfl, _⟩ := h
    rfl
  · obtain ⟨a, ns, k, rfl, hS, hn, hk, q⟩ := h
    refine ⟨_, pss_cons (ps_set (i := 2) scDraw.nd rfl (Or.inl rfl) pe_int)
      (pss_cons (ps_if (pt_cmpR (op_neD hr.units) (pv 0) (pe_lst pa_nil) (nomark _)) (pss_one (ps_set (i := 2) scDraw.nd rfl (Or.inl rfl) (pe_ix ix_list (pv 0) (pe_op op_mod (pe_callTy call_int1 (by rfl) T.int (by decide +kernel) (pa_cons (pv 1) pa_nil)) (pe_callB call_len_seq (by rfl) T.len PySem.boot_len (pa_cons (pv 0) pa_nil))) (fun _ _ => rfl)))) pss_nil)
      (pss_cons (ps_set (i := 3) scDraw.nd rfl (Or.inl rfl) (pe_op op_mod (pe_op op_mul (pe_callTy call_int1 (by rfl) T.int (by decide +kernel) (pa_cons (pe_op op_add (pe_op op_add (pe_op op_mod (pe_callTy call_int1 (by rfl) T.int (by decide +kernel) (pa_cons (pv 2) pa_nil)) pe_int) (pe_op op_mul pe_int (pv 1))) pe_int) pa_nil)) pe_int) pe_int))
      (pss_one (ps_ret (pe_lst (pa_cons (pe_op op_mul (pv 2) (pe_callTy call_int1 (by rfl) T.int (by decide +kernel) (pa_cons (pe_cmpR op_ge (pv 2) (pe_op op_pow pe_int pe_int) (nomark _)) pa_nil))) (pa_cons (pv 3) pa_nil))))))), ?_⟩
    refine ⟨_, rfl, by show 0 ≤ sizeLine; decide, fun l nl => ?_⟩
    refine ⟨.list (ns.map PyData.int), .list [], .lst (seq_same (same_new nl) hS) (dp_ints ns), .lst (SqL.of upd_same) .nil, shaped_ints ns, by decide +kernel, _, rfl, ?_⟩
    have s1 : Same H (upd H l (.lst [])) := same_new nl
    have last : ∀ (c : Int), ∀ p, (upd H l (.lst [])) p = none → Q (.ref p) (upd (upd H l (.lst [])) p (.lst [.int (c * (if (decide ((10 : Int) ^ 18 ≤ c)) = true then 1 else 0)), .int ((c % 2147483629 + 104729 * (k : Int) + 11) * 48271 % 2147483647)])) := by
      intro c p np
      exact q p _ (none_of s1 np) (s1.trans (same_new np)) ⟨_, _, upd_same, Int.emod_nonneg _ (by decide), Int.emod_lt_of_pos _ (by decide)⟩
    cases ns with
    | nil =>
      rw [show (!PyData.eqv (.list (([] : List Int).map PyData.int)) (.list [])) = false by decide +kernel]
      refine iteF ?_
      refine ⟨_, rfl, .inl ⟨_, rfl, _, _, rfl, rfl, (by show (0 : Int) < _; decide), ?_⟩⟩
      refine ⟨_, rfl, _, _, rfl, rfl, .inl ⟨by decide, by decide⟩, _, _, rfl, rfl, _, _, rfl, rfl, .inl ⟨_, rfl, _, _, rfl, rfl, .inr ⟨by decide, by decide⟩, _, _, rfl, rfl, (by show (0 : Int) < _; decide), ?_⟩⟩
      refine ⟨_, rfl, _, rfl, 10, 18, rfl, rfl, ⟨by decide, by decide, by decide⟩, _, _, rfl, rfl, .inr ⟨_, rfl, _, _, rfl, rfl, .inr ⟨?_, ?_⟩, _, rfl, by show 2 ≤ sizeLine; decide, fun p np => last _ p np⟩⟩
      · split <;> decide
      · split <;> decide
    | cons n0 ns =>
      rw [show (!PyData.eqv (.list ((n0 :: ns).map PyData.int)) (.list [])) = true by rw [List.map_cons, PyData.eqv, PyData.eqvAll]; rfl]
      refine iteT ?_
      have hlen : (0 : Int) < (((n0 :: ns).map V.int).length : Nat) := by rw [List.length_map, List.length_cons]; omega
      have hS1 : SqL K (upd H l (.lst [])) a ((n0 :: ns).map V.int) := seq_same s1 hS
      obtain ⟨j, hj1, hj2⟩ : ∃ j : Nat, (k : Int) % (((n0 :: ns).map V.int).length : Nat) = (j : Int) ∧ j < (n0 :: ns).length := by
        have h1 := Int.emod_nonneg (k : Int) (Int.ne_of_gt hlen)
        have h2 := Int.emod_lt_of_pos (k : Int) hlen
        refine ⟨((k : Int) % (((n0 :: ns).map V.int).length : Nat)).toNat, by omega, ?_⟩
        rw [List.length_map] at h1 h2 ⊢
        omega
      refine ⟨_, rfl, _, rfl, .inl ⟨_, rfl, _, rfl, a, _, rfl, .inl hS1, _, _, rfl, rfl, hlen, a, _, _, V.int (n0 :: ns)[j], rfl, rfl, hS1, by rw [hj1]; exact atI_nat (by rw [List.getElem?_map, List.getElem?_eq_getElem hj2]; rfl), ?_⟩⟩
      refine ⟨_, rfl, .inl ⟨_, rfl, _, _, rfl, rfl, (by show (0 : Int) < _; decide), ?_⟩⟩
      refine ⟨_, rfl, _, _, rfl, rfl, .inl ⟨by decide, by decide⟩, _, _, rfl, rfl, _, _, rfl, rfl, .inl ⟨_, rfl, _, _, rfl, rfl, .inr ⟨by decide, by decide⟩, _, _, rfl, rfl, (by show (0 : Int) < _; decide), ?_⟩⟩
      refine ⟨_, rfl, _, rfl, 10, 18, rfl, rfl, ⟨by decide, by decide, by decide⟩, _, _, rfl, rfl, .inr ⟨_, rfl, _, _, rfl, rfl, .inr ⟨?_, ?_⟩, _, rfl, by show 2 ≤ sizeLine; decide, fun p np => last _ p np⟩⟩
      · split <;> decide
      · split <;> decide
theorem ok_take {f : Addr} {fd : FuncData} (F : Fun K "_law_take" "_law_take" sTake f fd) (T : Tx mg) : FnOk P w K mg base CX0 1 f fd ["_law_pool", "_law_many"] spTake := by
  refine F.ok scTake (fun vs H Q E h => ?_) (fun cdv A outer s H vs Q E hr h => ?_)
  · obtain ⟨p, m, rfl, _⟩ := h
    rfl
  · obtain ⟨p, m, rfl, ⟨g, z, hp, z0, z1⟩, m0, m1, q⟩ := h
    refine ⟨_, pss_cons (ps_if (pt_cmpR op_gt (pe_ix ix_list (pv 0) pe_int (fun _ _ => rfl)) pe_int (nomark _))
        (pss_cons (ps_set (i := 2) scTake.nd rfl (Or.inl rfl) (pe_op op_mod (pe_callTy call_int1 (by rfl) T.int (by decide +kernel) (pa_cons (pe_ix ix_list (pv 0) pe_int (fun _ _ => rfl)) pa_nil)) (pv 1)))
        (pss_cons (ps_asg (pe_op op_fdiv (pe_ix ix_list (pv 0) pe_int (fun _ _ => rfl)) (pv 1)) (pg_sub (pv 0) pe_int set_list))
        (pss_one (ps_ret (pv 2))))) pss_nil)
      (pss_cons (ps_asg (pe_op op_mod (pe_callTy call_int1 (by rfl) T.int (by decide +kernel) (pa_cons (pe_op op_add (pe_op op_mul (pe_ix ix_list (pv 0) pe_int (fun _ _ => rfl)) pe_int) pe_int) pa_nil)) pe_int) (pg_sub (pv 0) pe_int set_list))
      (pss_one (ps_ret (pe_op op_mod (pe_callTy call_int1 (by rfl) T.int (by decide +kernel) (pa_cons (pe_op op_fdiv (pe_op op_mod (pe_callTy call_int1 (by rfl) T.int (by decide +kernel) (pa_cons (pe_op op_mul (pe_ix ix_list (pv 0) pe_int (fun _ _ => rfl)) (pe_ix ix_list (pv 0) pe_int (fun _ _ => rfl))) pa_nil)) pe_int) pe_int) pa_nil)) (pv 1))))), ?_⟩
    refine ⟨_, rfl, p, _, 0, .int g, rfl, rfl, SqL.of hp, atI_nat (j := 0) rfl, _, _, rfl, rfl, _, rfl, ?_⟩
    refine ite2 (fun c => ?_) (fun c => ?_)
    · refine ⟨_, rfl, p, _, 0, .int g, rfl, rfl, SqL.of hp, atI_nat (j := 0) rfl, .inl ⟨_, rfl, _, rfl, _, _, rfl, rfl, m0, ?_⟩⟩
      refine ⟨_, rfl, p, _, 0, .int g, rfl, rfl, SqL.of hp, atI_nat (j := 0) rfl, _, rfl, _, _, rfl, rfl, ⟨m0, m1⟩, ?_⟩
      refine ⟨_, rfl, p, _, 0, 0, rfl, rfl, hp, rfl, ?_⟩
      refine ⟨_, rfl, q _ _ (Int.emod_nonneg _ (by omega)) (Int.emod_lt_of_pos _ m0) ⟨_, z, upd_same, z0, z1⟩ KeepP.upd⟩
    · refine ⟨_, rfl, p, _, 1, .int z, rfl, rfl, SqL.of hp, atI_nat (j := 1) rfl, _, _, rfl, rfl, .inl ⟨by omega, by omega⟩, _, _, rfl, rfl, .inl ⟨_, rfl, _, _, rfl, rfl, (by show (0 : Int) < _; decide), ?_⟩⟩
      refine ⟨_, rfl, p, _, 1, 1, rfl, rfl, hp, rfl, ?_⟩
      have s0 := Int.emod_nonneg (z * 48271 + 11) (by decide : (2147483647 : Int) ≠ 0)
      have s1 := Int.emod_lt_of_pos (z * 48271 + 11) (by decide : (0 : Int) < 2147483647)
      refine ⟨_, rfl, p, _, 1, _, rfl, rfl, SqL.of upd_same, atI_nat (j := 1) rfl, _, rfl, p, _, 1, _, rfl, rfl, SqL.of upd_same, atI_nat (j := 1) rfl, _, _, rfl, rfl, .inl ⟨by omega, by omega⟩, .inl ⟨_, rfl, _, _, rfl, rfl, (by show (0 : Int) < _; decide), _, _, rfl, rfl, ⟨by decide, by decide⟩, .inl ⟨_, rfl, _, rfl, _, _, rfl, rfl, m0, ?_⟩⟩⟩
      exact q _ _ (Int.emod_nonneg _ (by omega)) (Int.emod_lt_of_pos _ m0) ⟨g, _, upd_same, s0, s1⟩ KeepP.upd
theorem str_at {ws : List Str} {j : Nat} (h : j < ws.length) : (ws.map V.str)[j]? = some (V.str ws[j]) := by
  rw [List.getElem?_map, List.getElem?_eq_getElem h]
  rfl
theorem ok_newWords {f fT : Addr} {fd fdT : FuncData} (F : Fun K "_law_new_words" "_law_new_words" sNewWords f fd) (mT : mg "_law_take" = some (.ref fT)) (kT : PySem.W.keepIn K (.ref fT) = true) (bT : Binds K fdT ["_law_pool", "_law_many"] []) (GT : FnOk P w K mg base CX0 1 fT fdT ["_law_pool", "_law_many"] spTake) :
    FnOk P w K mg base CX0 2 f fd ["_law_pool"] spNewWords := by
  refine F.ok scNewWords (fun vs H Q E h => ?_) (fun cdv A outer s H vs Q E hr h => ?_)
  · obtain ⟨p, rfl, _⟩ := h
    rfl
  · obtain ⟨p, rfl, hp, q⟩ := h
    refine ⟨_, pss_cons (ps_set (i := 1) scNewWords.nd rfl (Or.inl rfl) (pe_ix ix_list (pe_lst (pa_cons pe_str (pa_cons pe_str (pa_cons pe_str (pa_cons pe_str pa_nil))))) (pe_call GT hr (by rfl) mT kT bT .nil pass0 (pa_cons (pv 0) (pa_cons pe_int pa_nil))) (fun _ _ => rfl))) <|
      pss_cons (ps_set (i := 2) scNewWords.nd rfl (Or.inl rfl) (pe_ix ix_list (pe_lst (pa_cons pe_str (pa_cons pe_str (pa_cons pe_str (pa_cons pe_str pa_nil))))) (pe_call GT hr (by rfl) mT kT bT .nil pass0 (pa_cons (pv 0) (pa_cons pe_int pa_nil))) (fun _ _ => rfl))) <|
      pss_cons (ps_set (i := 3) scNewWords.nd rfl (Or.inl rfl) (pe_ix ix_list (pe_lst (pa_cons pe_str (pa_cons pe_str (pa_cons pe_str pa_nil)))) (pe_call GT hr (by rfl) mT kT bT .nil pass0 (pa_cons (pv 0) (pa_cons pe_int pa_nil))) (fun _ _ => rfl))) <|
      pss_cons (ps_set (i := 4) scNewWords.nd rfl (Or.inl rfl) (pe_ix ix_list (pe_lst (pa_cons pe_str (pa_cons pe_str pa_nil))) (pe_call GT hr (by rfl) mT kT bT .nil pass0 (pa_cons (pv 0) (pa_cons pe_int pa_nil))) (fun _ _ => rfl))) <|
      pss_one (ps_ret (pe_lst (pa_cons (pv 1) (pa_cons (pv 2) (pa_cons (pv 3) (pa_cons (pv 4) (pa_cons (pe_ix ix_list (pe_lst (pa_cons pe_str (pa_cons pe_str (pa_cons pe_str pa_nil)))) (pe_call GT hr (by rfl) mT kT bT .nil pass0 (pa_cons (pv 0) (pa_cons pe_int pa_nil))) (fun _ _ => rfl)) pa_nil))))))), ?_⟩
    have draw : ∀ (ws : List Str) {H1 : Hp} {Q1 : VK} {l : Addr}, Pool H1 p → H1 l = none → (0 : Int) < ws.length → ((ws.length : Nat) : Int) < 1073741824 → (∀ (z : Str) (H2 : Hp), z ∈ ws → Pool H2 p → KeepP p H1 H2 → Q1 (.str z) H2) →
        spTake [.ref p, .int ((ws.length : Nat) : Int)] (upd H1 l (.lst (ws.map V.str))) (fun v H2 => ∃ a xs i x, V.ref l = .ref a ∧ v = .int i ∧ SqL K H2 a xs ∧ L2.atI xs i = some x ∧ Q1 x H2) E := by
      intro ws H1 Q1 l hp1 nl h0 h1 hq
      have npl : l ≠ p := by
        obtain ⟨_, _, e, _⟩ := hp1
        exact (ne_of_none e nl).symm
      refine ⟨p, _, rfl, hp1.same (same_new nl), h0, h1, fun d H2 d0 d1 hp2 k2 => ?_⟩
      obtain ⟨j, rfl⟩ : ∃ j : Nat, d = (j : Int) := ⟨d.toNat, by omega⟩
      have hj : j < ws.length := by omega
      exact ⟨l, _, _, .str ws[j], rfl, rfl, SqL.of (k2 _ _ npl upd_same), atI_nat (str_at hj), hq _ _ (List.getElem_mem hj) hp2 ((KeepP.new nl).trans k2)⟩
    have np1 : p ≠ p → False := fun h => h rfl
    refine ⟨by show 4 ≤ sizeLine; decide, fun l1 nl1 => ⟨_, rfl, draw oW hp nl1 (by decide) (by decide) fun z1 H1 hz1 hp1 k1 => ?_⟩⟩
    refine ⟨by show 4 ≤ sizeLine; decide, fun l2 nl2 => ⟨_, rfl, draw lW hp1 nl2 (by decide) (by decide) fun z2 H2 hz2 hp2 k2 => ?_⟩⟩
    refine ⟨by show 3 ≤ sizeLine; decide, fun l3 nl3 => ⟨_, rfl, draw cW hp2 nl3 (by decide) (by decide) fun z3 H3 hz3 hp3 k3 => ?_⟩⟩
    refine ⟨by show 2 ≤ sizeLine; decide, fun l4 nl4 => ⟨_, rfl, draw nW hp3 nl4 (by decide) (by decide) fun z4 H4 hz4 hp4 k4 => ?_⟩⟩
    refine ⟨_, rfl, _, rfl, _, rfl, _, rfl, by show 3 ≤ sizeLine; decide, fun l5 nl5 => ⟨_, rfl, draw eW hp4 nl5 (by decide) (by decide) fun z5 H5 hz5 hp5 k5 => ?_⟩⟩
    have kk : KeepP p H H5 := (((k1.trans k2).trans k3).trans k4).trans k5
    refine ⟨by show 5 ≤ sizeLine; decide, fun l nl => ?_⟩
    exact q l ⟨z1, z2, z3, z4, z5⟩ _ ⟨hz1, hz2, hz3, hz4, hz5⟩ (kk.none hp5 nl) (hp5.same (same_new nl)) (kk.trans (KeepP.new nl)) upd_same
def kw5 : List Str := ["owner", "look", "choose", "wants", "early"]
theorem ok_made {f fI : Addr} {fd fdI : FuncData} (F : Fun K "_law_made_book" "_law_made_book" sMade f fd) (B : BF K mg CB) (M : Mk K CB fI) (hb : KBn K fdI ["self", "owner", "look", "choose", "wants", "early"] 1 kw5 (fun us ws => us ++ ws) (fun vs zs => vs ++ zs)) (GI : FnOk P w K mg base CX0 2 fI fdI ["self", "owner", "look", "choose", "wants", "early"] (spInit CB)) :
    FnOk P w K mg base CX0 4 f fd ["_law_words"] (spMade K CB) := by
  refine F.ok scMade (fun vs H Q E h => ?_) (fun cdv A outer s H vs Q E hr h => ?_)
  · obtain ⟨l, wd, rfl, _⟩ := h
    rfl
  · obtain ⟨l, wd, rfl, hS, hok, q⟩ := h
    refine ⟨_, pss_one (ps_ret (pe_makeK0 M GI hr (by rfl) B.gB hb pass0 (pk_cons (pe_ix ix_list (pv 0) pe_int (fun _ _ => rfl)) (pk_cons (pe_ix ix_list (pv 0) pe_int (fun _ _ => rfl)) (pk_cons (pe_ix ix_list (pv 0) pe_int (fun _ _ => rfl)) (pk_cons (pe_ix ix_list (pv 0) pe_int (fun _ _ => rfl)) (pk_cons (pe_ix ix_list (pv 0) pe_int (fun _ _ => rfl)) pk_nil))))))), ?_⟩
    refine ⟨_, rfl, l, _, 0, _, rfl, rfl, hS, atI_nat (j := 0) rfl, _, rfl, l, _, 1, _, rfl, rfl, hS, atI_nat (j := 1) rfl, _, rfl, l, _, 2, _, rfl, rfl, hS, atI_nat (j := 2) rfl, _, rfl, l, _, 3, _, rfl, rfl, hS, atI_nat (j := 3) rfl, _, rfl, l, _, 4, _, rfl, rfl, hS, atI_nat (j := 4) rfl, rfl, rfl, fun x dx nx ndx ne => ?_⟩
    refine ⟨x, dx, wd, rfl, upd_same, hok, fun d nd => ⟨rfl, q x _ nx ?_ ⟨dx, d, upd_same, ?_⟩⟩⟩
    · have nd1 : H d = none := by
        rw [upd_ne (show d ≠ x from fun e => by rw [e, upd_same] at nd; cases nd)] at nd
        by_cases e : d = dx
        · rw [e, upd_same] at nd
          cases nd
        · rw [upd_ne e] at nd
          exact nd
      intro b o e
      rw [upd_ne (ne_of_none e nx), upd_ne (ne_of_none e nd1), upd_ne (ne_of_none e nx), upd_ne (ne_of_none e ndx)]
      exact e
    · rw [upd_ne (show d ≠ x from fun e => by rw [e, upd_same] at nd; cases nd), upd_same]
end
end K1
namespace K1
open PySem PySem.Spec PyProof.Rows L2 Bk
theorem scLets : FnScope ["_law_owning", "_law_shape", "_law_word"] ["_law_owning", "_law_shape"] (defScope sLets) := ⟨rfl, rfl, rfl, by decide +kernel, rfl, by decide +kernel, by decide +kernel⟩
theorem scLShapes : FnScope ["_law_owning", "_law_places", "_law_rows", "_law_place", "_law_longer", "_law_row", "_law_word"] ["_law_owning", "_law_places"] (defScope sLShapes) := ⟨rfl, rfl, rfl, by decide +kernel, rfl, by decide +kernel, by decide +kernel⟩
/-- as many qs as rs, each pair by P -/
def Lst2 {α β : Type} (P : α → β → Prop) (qs : List α) (rs : List β) : Prop := qs.length = rs.length ∧ ∀ (i : Nat) (q : α), qs[i]? = some q → ∃ r, rs[i]? = some r ∧ P q r
theorem Lst2.imp {α β : Type} {P P' : α → β → Prop} {qs : List α} {rs : List β} (h : Lst2 P qs rs) (f : ∀ q r, P q r → P' q r) : Lst2 P' qs rs := ⟨h.1, fun i q e => let ⟨r, a, b⟩ := h.2 i q e; ⟨r, a, f _ _ b⟩⟩
theorem Lst2.nil {α β : Type} {P : α → β → Prop} : Lst2 P [] [] := ⟨rfl, fun i q e => by simp at e⟩
theorem Lst2.app {α β : Type} {P : α → β → Prop} {qs : List α} {rs : List β} {q : α} {r : β} (h : Lst2 P qs rs) (t : P q r) : Lst2 P (qs ++ [q]) (rs ++ [r]) := by
  refine ⟨by rw [List.length_append, List.length_append, h.1]; rfl, fun i q' e => ?_⟩
  by_cases hi : i < qs.length
  · rw [List.getElem?_append_left hi] at e
    obtain ⟨r', a, b⟩ := h.2 i q' e
    exact ⟨r', by rw [List.getElem?_append_left (by rw [← h.1]; exact hi)]; exact a, b⟩
  · rw [List.getElem?_append_right (by omega)] at e
    have hz : i - qs.length = 0 := by
      cases hk : i - qs.length with
      | zero => rfl
      | succ k =>
        rw [hk] at e
        simp at e
    rw [hz] at e
    have e' : q = q' := by simpa using e
    subst e'
    refine ⟨r, ?_, t⟩
    rw [List.getElem?_append_right (by rw [← h.1]; omega), ← h.1, hz]
    rfl
theorem Lst2.cat {α β : Type} {P : α → β → Prop} {qs qs' : List α} {rs rs' : List β} (h : Lst2 P qs rs) (h' : Lst2 P qs' rs') : Lst2 P (qs ++ qs') (rs ++ rs') := by
  refine ⟨by rw [List.length_append, List.length_append, h.1, h'.1], fun i q e => ?_⟩
  by_cases hi : i < qs.length
  · rw [List.getElem?_append_left hi] at e
    obtain ⟨r, a, b⟩ := h.2 i q e
    exact ⟨r, by rw [List.getElem?_append_left (by rw [← h.1]; exact hi)]; exact a, b⟩
  · rw [List.getElem?_append_right (by omega)] at e
    obtain ⟨r, a, b⟩ := h'.2 _ q e
    exact ⟨r, by rw [List.getElem?_append_right (by rw [← h.1]; omega), ← h.1]; exact a, b⟩
/-- at q a tuple of the texts r -/
def TQ (K : PySem.W.Frag) (H : Hp) (q : Addr) (r : List Str) : Prop := SqT K H q (r.map V.str)
theorem sqT_same {K : PySem.W.Frag} {H H' : Hp} {q : Addr} {xs : List V} (h : SqT K H q xs) (s : Same H H') : SqT K H' q xs := by
  rcases h with (h | ⟨o, h⟩) | h
  · exact .inl (.inl (s _ _ h))
  · exact .inl (.inr ⟨o, s _ _ h⟩)
  · exact .inr h
theorem sqT_lst {K : PySem.W.Frag} {H : Hp} {q D : Addr} {xs ys zs : List V} (h : SqT K H q xs) (hD : H D = some (.lst ys)) : SqT K (upd H D (.lst zs)) q xs := by
  rcases h with (h | ⟨o, h⟩) | h
  · refine .inl (.inl ?_)
    rw [upd_ne (show q ≠ D from fun e => by rw [e, hD] at h; cases h)]
    exact h
  · refine .inl (.inr ⟨o, ?_⟩)
    rw [upd_ne (show q ≠ D from fun e => by rw [e, hD] at h; cases h)]
    exact h
  · exact .inr h
theorem Tups.tq {K : PySem.W.Frag} {H : Hp} {qs : List Addr} {rs : List (List Str)} (h : Tups H qs rs) : Lst2 (TQ K H) qs rs := ⟨h.1, fun i q e => let ⟨r, a, b⟩ := h.2 i q e; ⟨r, a, b.sq⟩⟩
def spLets (K : PySem.W.Frag) : Sp := fun vs H Q _ => ∃ (o : Str) (p : Addr) (r : List Str), vs = [.str o, .ref p] ∧ TQ K H p r ∧ r ≠ [] ∧ Q (.bl (letB o r)) H
def spLShapes (K : PySem.W.Frag) : Sp := fun vs H Q _ => ∃ (o : Str) (n : Nat), vs = [.str o, .int (n : Int)] ∧ 1 ≤ n ∧ n ≤ 3 ∧ ∀ (l : Addr) (ps : List Addr) (H' : Hp), H l = none → Same H H' → H' l = some (.lst (ps.map V.ref)) → Lst2 (TQ K H') ps (shapesL o n) → Q (.ref l) H'
section
variable {P : Program} {w : World} {K : PySem.W.Frag} {mg : Str → Option Value} {base : Heap} {CB : Addr}
theorem early_skip : ∀ (r : List Str) (i : Nat) (a : Str), r[i]? = some a → (∀ m, m < i → r[m]? = some ("seen" : Str)) → earlyB r = if a = "seen" then earlyB (r.drop (i + 1)) else decide (a = "own")
  | [], i, a, h, _ => by simp at h
  | b :: r, 0, a, h, _ => by
    have e : b = a := by simpa using h
    subst e
    rfl
  | b :: r, i + 1, a, h, hm => by
    have hb : b = "seen" := by simpa using hm 0 (by omega)
    show (if b = "seen" then earlyB r else decide (b = "own")) = _
    rw [if_pos hb, early_skip r i a (by simpa using h) (fun m hm' => by simpa using hm (m + 1) (by omega))]
    rfl
theorem early_all : ∀ (r : List Str), (∀ m, m < r.length → r[m]? = some ("seen" : Str)) → earlyB r = false
  | [], _ => rfl
  | b :: r, hm => by
    have hb : b = "seen" := by simpa using hm 0 (by simp)
    show (if b = "seen" then earlyB r else decide (b = "own")) = false
    rw [if_pos hb]
    exact early_all r fun m h => by simpa using hm (m + 1) (by simpa using h)
theorem ok_lets {f : Addr} {fd : FuncData} (F : Fun K "_law_lets" "_law_lets" sLets f fd) : FnOk P w K mg base CX0 1 f fd ["_law_owning", "_law_shape"] (spLets K) := by
  refine F.ok scLets (fun vs H Q E h => ?_) (fun cdv A outer s H vs Q E hr h => ?_)
  · obtain ⟨o, p, r, rfl, _⟩ := h
    rfl
  · obtain ⟨o, p, r, rfl, hp, hne, q⟩ := h
    have hp : SqT K H p (r.map V.str) := hp
    refine ⟨_, pss_cons (ps_if (pt_cmpR op_eq (pv 0) pe_str (nomark _)) (pss_one (ps_ret pe_bl)) pss_nil) <|
      pss_cons (ps_if (pt_cmpR op_eq (pv 0) pe_str (nomark _)) (pss_one (ps_ret (pe_cmpR op_in_seq pe_str (pv 1) (by rfl)))) pss_nil) <|
      pss_cons (ps_if (pt_cmpR op_eq (pv 0) pe_str (nomark _)) (pss_one (ps_ret (pe_cmpR op_eq (pe_ix ix_tup (pv 1) pe_int (fun _ _ => rfl)) pe_str (nomark _)))) pss_nil) <|
      pss_cons (ps_for PassesOwn.never rfl (pi_tup (pv 1)) (pg_name (i := 2) scLets.nd rfl (Or.inl rfl)) (pss_one (ps_if (pt_cmpR op_ne (pv 2) pe_str (nomark _)) (pss_one (ps_ret (pe_cmpR op_eq (pv 2) pe_str (nomark _)))) pss_nil))) <|
      pss_one (ps_ret pe_bl), ?_⟩
    unfold letB at q
    refine ⟨_, rfl, rfl, _, rfl, ?_⟩
    rw [dec_str]
    by_cases h1 : o = "anybody"
    · rw [if_pos h1] at q
      rw [decide_eq_true h1]
      exact iteT q
    rw [if_neg h1] at q
    rw [decide_eq_false h1]
    refine iteF ⟨_, rfl, rfl, _, rfl, ?_⟩
    rw [dec_str]
    by_cases h2 : o = "any"
    · rw [if_pos h2] at q
      rw [decide_eq_true h2]
      refine iteT ⟨_, rfl, p, _, rfl, .inr hp, rfl, flat_strs _, ?_⟩
      rw [in_strs]
      exact q
    rw [if_neg h2] at q
    rw [decide_eq_false h2]
    refine iteF ⟨_, rfl, rfl, _, rfl, ?_⟩
    rw [dec_str]
    by_cases h3 : o = "first"
    · rw [if_pos h3] at q
      rw [decide_eq_true h3]
      cases r with
      | nil => exact absurd rfl hne
      | cons a r =>
        refine iteT ⟨_, rfl, p, _, (0 : Int), .str a, rfl, rfl, hp, atI_nat (j := 0) rfl, rfl, ?_⟩
        rw [dec_str]
        rw [show decide ((a :: r).head? = some ("own" : Str)) = decide (a = "own") by rw [decide_eq_decide]; simp] at q
        exact q
    rw [if_neg h3] at q
    rw [decide_eq_false h3]
    refine iteF ⟨_, rfl, p, rfl, ⟨_, hp⟩, for_it walk_tup (fun i σ H' => H' = H ∧ (∀ m, m < i → r[m]? = some ("seen" : Str)) ∧ ∃ v, σ = [some (.str o), some (.ref p), v]) ⟨rfl, fun m hm => absurd hm (Nat.not_lt_zero m), none, rfl⟩ (fun i σ H' _ h => by rw [h.1]; exact hp) ?_ ?_⟩
    · rintro i x σ H1 H2 hi ⟨rfl, hm, v, rfl⟩ ⟨rfl, hx⟩
      obtain ⟨a, ha, rfl⟩ : ∃ a, r[i]? = some a ∧ x = .str a := by
        rw [List.getElem?_map] at hx
        cases hp : r[i]? with
        | none => rw [hp] at hx; cases hx
        | some q0 => rw [hp] at hx; cases hx; exact ⟨q0, rfl, rfl⟩
      refine ⟨_, rfl, rfl, _, rfl, ?_⟩
      rw [dec_str]
      have e := early_skip r i a ha hm
      by_cases hs : a = "seen"
      · rw [decide_eq_true hs]
        refine iteF ⟨rfl, fun m hm' => ?_, _, rfl⟩
        by_cases hmi : m = i
        · rw [hmi, ha, hs]
        · exact hm m (by omega)
      · rw [decide_eq_false hs]
        rw [if_neg hs] at e
        refine iteT ⟨_, rfl, rfl, ?_⟩
        rw [dec_str, ← e]
        exact q
    · rintro σ H1 ⟨rfl, hm, v, rfl⟩
      rw [early_all r fun m h => hm m (by rw [List.length_map]; exact h)] at q
      exact q
end
end K1
namespace K1
open PySem PySem.Spec PyProof.Rows L2 Bk
theorem stepR_one {rs : List (List Str)} {i : Nat} {r : List Str} (e : rs[i]? = some r) : stepR (rs.take (i + 1)) = stepR (rs.take i) ++ shW.map fun w => r ++ [w] := stepR_take e
/-- longer rows of the law, the row r at hand: i rows are done, k words of it -/
def PvL (K : PySem.W.Frag) (H : Hp) (l m b : Addr) (ps qs : List Addr) (rs : List (List Str)) (D : Addr) (r : List Str) (rs2 : List (List Str)) (k : Nat) (H' : Hp) : Prop := Same H H' ∧ H' l = some (.lst (ps.map V.ref)) ∧ Lst2 (TQ K H') ps rs ∧ H' m = some (.lst (qs.map V.ref)) ∧ Lst2 (TQ K H') qs rs2 ∧ H' b = some (.lst (shW.map V.str)) ∧
  ∃ ts : List Addr, H' D = some (.lst (ts.map V.ref)) ∧ Lst2 (TQ K H') ts ((shW.take k).map fun w => r ++ [w])
theorem Lst2.tq {K : PySem.W.Frag} {H H' : Hp} {qs : List Addr} {rs : List (List Str)} (h : Lst2 (TQ K H) qs rs) (s : Same H H') : Lst2 (TQ K H') qs rs := h.imp fun _ _ t => sqT_same t s
theorem Lst2.tl {K : PySem.W.Frag} {H : Hp} {qs : List Addr} {rs : List (List Str)} {D : Addr} {xs ys : List V} (h : Lst2 (TQ K H) qs rs) (e : H D = some (.lst xs)) : Lst2 (TQ K (upd H D (.lst ys))) qs rs := h.imp fun _ _ t => sqT_lst t e
theorem str_at2 {ws : List Str} {j : Nat} {x : V} (h : (ws.map V.str)[j]? = some x) : ∃ a, ws[j]? = some a ∧ x = .str a := by
  rw [List.getElem?_map] at h
  cases hp : ws[j]? with
  | none => rw [hp] at h; cases h
  | some q => rw [hp] at h; cases h; exact ⟨q, rfl, rfl⟩
section
variable {P : Program} {w : World} {K : PySem.W.Frag} {mg : Str → Option Value} {base : Heap} {CB : Addr}
theorem ok_lShapes {f fL : Addr} {fd fdL : FuncData} (F : Fun K "_law_shapes" "_law_shapes" sLShapes f fd) (T : Tx mg) (mL : mg "_law_lets" = some (.ref fL)) (kL : PySem.W.keepIn K (.ref fL) = true) (bL : Binds K fdL ["_law_owning", "_law_shape"] []) (GL : FnOk P w K mg base CX0 1 fL fdL ["_law_owning", "_law_shape"] (spLets K)) :
    FnOk P w K mg base CX0 2 f fd ["_law_owning", "_law_places"] (spLShapes K) := by
  refine F.ok scLShapes (fun vs H Q E h => ?_) (fun cdv A outer s H vs Q E hr h => ?_)
  · obtain ⟨o, n, rfl, _⟩ := h
    rfl
  · obtain ⟨o, n, rfl, n1, n3, q⟩ := h
    refine ⟨_, pss_cons (ps_set (i := 2) scLShapes.nd rfl (Or.inl rfl) (pe_lst (pa_cons (pe_tup pa_nil) pa_nil))) <|
      pss_cons (ps_for PassesOwn.never rfl (pi_range1 (by rfl) T.range (pa_cons (pv 1) pa_nil)) (pg_name (i := 3) scLShapes.nd rfl (Or.inl rfl))
        (pss_cons (ps_set (i := 4) scLShapes.nd rfl (Or.inl rfl) (pe_lst pa_nil)) <|
        pss_cons (ps_for PassesOwn.never rfl (pi_list (pv 2)) (pg_name (i := 5) scLShapes.nd rfl (Or.inr rfl))
          (pss_one (ps_set (i := 4) scLShapes.nd rfl (Or.inl rfl) (pe_op op_cat (pv 4)
            (pe_lc (own := [("_law_word", 6)]) (g := gName 6) (tt := tYes) rfl scLShapes.nd (pi_list (pe_lst (pa_cons pe_str (pa_cons pe_str (pa_cons pe_str pa_nil))))) (blkOk_by (own := [("_law_word", 6)]) (N := ["_law_owning", "_law_places", "_law_rows", "_law_place", "_law_longer", "_law_row", "_law_word"]) (sc := defScope sLShapes) (by decide +kernel))
              (fun _ _ _ _ _ => pg_name (i := 6) scLShapes.nd rfl (Or.inl rfl)) (fun _ _ _ _ _ => pts_nil) (fun _ _ _ _ _ => pe_op (show OpR _ (binaryOp .Add) (rCatA K) from op_catA) (pv 5) (pe_tup (pa_cons (pv 6) pa_nil)))))))) <|
        pss_one (ps_set (i := 2) scLShapes.nd rfl (Or.inl rfl) (pv 4)))) <|
      pss_one (ps_ret (pe_lc (own := [("_law_row", 5)]) (g := gName 5) rfl scLShapes.nd (pi_list (pv 2)) (blkOk_by (own := [("_law_row", 5)]) (N := ["_law_owning", "_law_places", "_law_rows", "_law_place", "_law_longer", "_law_row", "_law_word"]) (sc := defScope sLShapes) (by decide +kernel)) (fun _ _ _ _ _ => pg_name (i := 5) scLShapes.nd rfl (Or.inl rfl))
        (fun _ _ _ _ _ => pts_one (pt_val (pe_call GL hr (by rfl) mL kL bL .nil pass0 (pa_cons (pv 0) (pa_cons (pv 5) pa_nil))))) (fun _ _ _ _ _ => pv 5))), ?_⟩
    refine ⟨by show 0 ≤ sizeLine; decide, fun t0 nt0 => ⟨by show 1 ≤ sizeLine; decide, fun l0 nl0 => ?_⟩⟩
    have s0 : Same H (upd (upd H t0 (.tup [])) l0 (.lst [V.ref t0])) := (same_new nt0).trans (same_new nl0)
    have hl0 : H l0 = none := none_of (same_new nt0) nl0
    have ht0 : (upd (upd H t0 (.tup [])) l0 (.lst [V.ref t0])) t0 = some (.tup []) := by
      rw [upd_ne (ne_of_none upd_same nl0)]
      exact upd_same
    refine ⟨_, rfl, (n : Int), rfl, by omega, by omega, for_range (n := n) (fun i σ H' => ∃ (l : Addr) (ps : List Addr) (v3 v4 v5 : Option V), σ = [some (.str o), some (.int n), some (.ref l), v3, v4, v5, none] ∧ H l = none ∧ Same H H' ∧ H' l = some (.lst (ps.map V.ref)) ∧ Lst2 (TQ K H') ps (allR i)) ⟨l0, [t0], none, none, none, rfl, hl0, s0, upd_same, Lst2.app (qs := []) (rs := []) Lst2.nil (SqT.of ht0)⟩ ?_ ?_⟩
    · rintro i σ H1 hi ⟨l, ps, v3, v4, v5, rfl, nl, s1, hl, hT⟩
      refine ⟨by show 0 ≤ sizeLine; decide, fun m0 nm0 => ?_⟩
      have hm0 : H m0 = none := none_of s1 nm0
      have hlm0 : l ≠ m0 := ne_of_none hl nm0
      refine ⟨_, rfl, l, rfl, ⟨ps.map V.ref, SqL.of (by rw [upd_ne hlm0]; exact hl)⟩, for_it (walk_list (xs := ps.map V.ref)) (fun j σ H' => ∃ (m : Addr) (qs : List Addr) (v5 : Option V), σ = [some (.str o), some (.int n), some (.ref l), some (.int (0 + i)), some (.ref m), v5, none] ∧ H m = none ∧ m ≠ l ∧ Same H H' ∧ H' l = some (.lst (ps.map V.ref)) ∧ Lst2 (TQ K H') ps (allR i) ∧ H' m = some (.lst (qs.map V.ref)) ∧ Lst2 (TQ K H') qs (stepR ((allR i).take j)))
        ⟨m0, [], v5, rfl, hm0, hlm0.symm, same_upd s1 hm0, by rw [upd_ne hlm0]; exact hl, hT.tq (same_new nm0), upd_same, by rw [List.take_zero]; exact Lst2.nil⟩ (fun j σ H' _ h => by obtain ⟨_, _, _, _, _, _, _, h, _⟩ := h; exact SqL.of h) ?_ ?_⟩
      · rintro j x σ H9 H2 hj ⟨m, qs, v5, rfl, nm, nml, s2, hl2, hT2, hm, hQ⟩ ⟨rfl, hx⟩
        obtain ⟨q0, hq0, rfl⟩ := ref_at hx
        obtain ⟨r, hr1, hr2⟩ := hT2.2 j q0 hq0
        refine ⟨_, rfl, by show 3 ≤ sizeLine; decide, fun b nb => ⟨b, rfl, ⟨shW.map V.str, SqL.of upd_same⟩, fun D nD => ?_⟩⟩
        have hb0 : H b = none := none_of s2 nb
        have sb : Same H2 (upd H2 b (.lst (shW.map V.str))) := same_new nb
        have nDb : D ≠ b := fun e => by
          rw [e] at nD
          have : (upd H2 b (.lst (shW.map V.str))) b = none := nD
          rw [upd_same] at this
          cases this
        have hD0 : H D = none := none_of (s2.trans sb) nD
        have sD := same_new (o := .lst []) nD
        have sbD := sb.trans sD
        refine lc_list (K := K) (a := b) (xs := shW.map V.str) (PvL K H l m b ps qs (allR i) D r (stepR ((allR i).take j))) ⟨s2.trans sbD, sbD _ _ hl2, hT2.tq sbD, sbD _ _ hm, hQ.tq sbD, sD _ _ upd_same, [], upd_same, by rw [List.take_zero]; exact Lst2.nil⟩ (fun k H' _ p => SqL.of p.2.2.2.2.2.1) ?_ ?_
        · rintro k y H4 hy ⟨s4, hl4, hT4, hm4, hQ4, hb4, ts, hD4, hts⟩
          obtain ⟨wk, hwk, rfl⟩ := str_at2 hy
          have hr4 : SqT K H4 q0 (r.map V.str) := by
            obtain ⟨r', e1, e2⟩ := hT4.2 j q0 hq0
            rw [hr1] at e1
            cases e1
            exact e2
          have hlen := (allR_mem i r (List.mem_of_getElem? hr1)).1
          refine ⟨rfl, ?_⟩
          unfold tYes
          refine iteT ?_
          refine ⟨_, rfl, _, rfl, by show 1 ≤ sizeLine; decide, fun t nt => ?_⟩
          have st : Same H4 (upd H4 t (.tup [V.str wk])) := same_new nt
          have nt0' : H t = none := none_of s4 nt
          -- what is left behind the new tuple
          have fin : ∀ (p : Addr) (H5 : Hp), Same H4 H5 → SqT K H5 p ((r ++ [wk]).map V.str) → ∃ acc, H5 D = some (.lst acc) ∧ acc.length < sizeLine ∧ PvL K H l m b ps qs (allR i) D r (stepR ((allR i).take j)) (k + 1) (upd H5 D (.lst (acc ++ [V.ref p]))) := by
            intro p H5 s5 hp5
            have hD5 := s5 _ _ hD4
            have hlD : l ≠ D := fun e => by
              rw [e] at hl2
              rw [upd_ne nDb] at nD
              rw [nD] at hl2
              cases hl2
            have hmD : m ≠ D := fun e => by
              rw [e] at hm
              rw [upd_ne nDb] at nD
              rw [nD] at hm
              cases hm
            refine ⟨ts.map V.ref, hD5, ?_, same_upd (s4.trans s5) hD0, by rw [upd_ne hlD]; exact s5 _ _ hl4, (hT4.tq s5).tl hD5, by rw [upd_ne hmD]; exact s5 _ _ hm4, (hQ4.tq s5).tl hD5, by rw [upd_ne nDb.symm]; exact s5 _ _ hb4, ts ++ [p], by rw [upd_same, List.map_append]; rfl, ?_⟩
            · rw [List.length_map, hts.1, List.length_map, List.length_take]
              have : min k shW.length ≤ 3 := Nat.min_le_right _ _
              exact small1000 (by omega)
            · rw [List.take_add_one, hwk, Option.toList_some, List.map_append]
              exact ((hts.tq s5).app (show TQ K H5 p (r ++ [wk]) from hp5)).tl hD5
          refine ⟨q0, t, _, _, rfl, rfl, sqT_same hr4 st, SqT.of upd_same, ?_, fun e => ?_, fun _ e => (by cases e), fun hne _ p np => ?_⟩
          · rw [List.length_map, hlen]
            exact Nat.le_trans (show i + 1 ≤ 1000 by omega) (by decide)
          · have er : r = [] := by simpa using e
            refine fin t _ st ?_
            rw [er]
            exact SqT.of upd_same
          · refine fin p _ (st.trans (same_new np)) ?_
            rw [List.map_append]
            exact SqT.of upd_same
        · rintro H4 ⟨s4, hl4, hT4, hm4, hQ4, hb4, ts, hD4, hts⟩
          have e3 : shW.take (shW.map V.str).length = shW := List.take_of_length_le (by rw [List.length_map]; exact Nat.le_refl _)
          rw [e3] at hts
          refine ⟨m, D, _, _, rfl, rfl, hm4, hD4, ?_, fun p np => ?_⟩
          · rw [List.length_map, List.length_map, hQ4.1, hts.1, List.length_map]
            have h1 := stepR_take_len (allR i) j
            have h2 := allR_small (n := i) (by omega)
            exact Nat.le_trans (show _ ≤ 1000 by show _ + 3 ≤ 1000; omega) (by decide)
          · have np0 : H p = none := none_of s4 np
            have sp4 := same_new (o := .lst (qs.map V.ref ++ ts.map V.ref)) np
            refine ⟨p, qs ++ ts, some (.ref q0), rfl, np0, (ne_of_none hl4 np).symm, s4.trans sp4, sp4 _ _ hl4, hT4.tq sp4, by rw [upd_same, List.map_append], ?_⟩
            rw [stepR_one hr1]
            exact ((hQ4.tq sp4)).cat (hts.tq sp4)
      · rintro σ H2 ⟨m, qs, v5, rfl, nm, nml, s2, hl2, hT2, hm, hQ⟩
        have : (allR i).take (ps.map V.ref).length = allR i := List.take_of_length_le (by rw [List.length_map, hT.1]; exact Nat.le_refl _)
        rw [this] at hQ
        exact ⟨_, rfl, m, qs, _, _, _, rfl, nm, s2, hm, hQ⟩
    · rintro σ H1 ⟨l, ps, v3, v4, v5, rfl, nl, s1, hl, hT⟩
      refine ⟨_, rfl, l, rfl, ⟨_, SqL.of hl⟩, fun D nD => ?_⟩
      have nD0 : H D = none := none_of s1 nD
      have hnl : l ≠ D := ne_of_none hl nD
      refine lc_list (K := K) (a := l) (xs := ps.map V.ref) (fun j H' => Same H H' ∧ H' l = some (.lst (ps.map V.ref)) ∧ Lst2 (TQ K H') ps (allR n) ∧ ∃ qs : List Addr, H' D = some (.lst (qs.map V.ref)) ∧ Lst2 (TQ K H') qs (((allR n).take j).filter (letB o))) ⟨same_upd s1 nD0, by rw [upd_ne hnl]; exact hl, hT.tq (same_new nD), [], upd_same, by rw [List.take_zero]; exact Lst2.nil⟩ (fun j H' _ p => SqL.of p.2.1) ?_ ?_
      · rintro j x H2 hx ⟨s2, hl2, hT2, qs, hD, hQ⟩
        obtain ⟨q0, hq0, rfl⟩ := ref_at hx
        obtain ⟨r, hr1, hr2⟩ := hT2.2 j q0 hq0
        have hmem := allR_mem n r (List.mem_of_getElem? hr1)
        refine ⟨rfl, ?_⟩
        refine ⟨_, rfl, _, rfl, o, q0, r, rfl, hr2, ?_, _, rfl, ?_⟩
        · intro e
          rw [e] at hmem
          have := hmem.1
          simp at this
          omega
        by_cases hc : letB o r = true
        · rw [hc]
          refine iteT ⟨_, rfl, qs.map V.ref, hD, ?_, ?_, ?_, ?_, qs ++ [q0], ?_, ?_⟩
          · rw [List.length_map, hQ.1]
            have h1 : (((allR n).take j).filter (letB o)).length ≤ (allR n).length := Nat.le_trans (List.length_filter_le _ _) (by rw [List.length_take]; exact Nat.min_le_right _ _)
            have h2 := allR_small (n := n) n3
            exact small1000 (by omega)
          · exact same_upd s2 nD0
          · rw [upd_ne hnl]
            exact hl2
          · exact hT2.tl hD
          · rw [upd_same, List.map_append]
            rfl
          · rw [filter_take hr1, if_pos hc]
            exact (hQ.app hr2).tl hD
        · have hc' : letB o r = false := by simpa using hc
          rw [hc']
          refine iteF ⟨s2, hl2, hT2, qs, hD, ?_⟩
          rw [filter_take hr1, if_neg hc, List.append_nil]
          exact hQ
      · rintro H2 ⟨s2, hl2, hT2, qs, hD, hQ⟩
        have : (allR n).take (ps.map V.ref).length = allR n := List.take_of_length_le (by rw [List.length_map, hT.1]; exact Nat.le_refl _)
        rw [this] at hQ
        exact q D qs H2 nD0 s2 hD hQ
end
end K1
namespace K1
open PySem PySem.Spec PyProof.Rows L2 Bk
theorem scLReason : FnScope ["_law_words"] ["_law_words"] (defScope sLReason) := ⟨rfl, rfl, rfl, by decide +kernel, rfl, by decide +kernel, by decide +kernel⟩
/-- the words of books can be laid -/
theorem word_ok {z : Str} (h : z ∈ oW ∨ z ∈ lW ∨ z ∈ cW ∨ z ∈ nW ∨ z ∈ eW ∨ z ∈ shW) : PyData.canLay0 (.str z) = true := by
  have e : (oW ++ lW ++ cW ++ nW ++ eW ++ shW).all (fun z => PyData.canLay0 (.str z)) = true := by decide +kernel
  rw [List.all_eq_true] at e
  apply e
  simp only [List.mem_append]
  rcases h with h | h | h | h | h | h <;> simp [h]
theorem eqv_s (a b : Str) : PyData.eqv (.str a) (.str b) = decide (a = b) := by
  rw [PyData.eqv]
  by_cases h : a = b
  · rw [h]
    simp
  · rw [decide_eq_false h]
    simpa using h
theorem eqv_two (a b c d : Str) : PyData.eqv (.list [.str a, .str b]) (.list [.str c, .str d]) = (decide (a = c) && decide (b = d)) := by
  rw [PyData.eqv, PyData.eqvAll, PyData.eqvAll, PyData.eqvAll, eqv_s, eqv_s, Bool.and_true]
theorem lay_two {a b : Str} (ha : PyData.canLay0 (.str a) = true) (hb : PyData.canLay0 (.str b) = true) : SeqAt.shaped (.list [.str a, .str b]) = true := by
  unfold SeqAt.shaped
  rw [PyData.canLay0, PyData.canLayAll0, PyData.canLayAll0, PyData.canLayAll0, ha, hb, PyData.depth, PyData.depthAll, PyData.depthAll, PyData.depthAll, PyData.depth, PyData.depth]
  decide
theorem cut13 (a b c d e : V) : cutV [a, b, c, d, e] (some 1) (some 3) = [b, c] := by
  unfold cutV
  rw [show HT.sIx [a, b, c, d, e].length 0 (some 1) = 1 from HT.sIx_nat _ 0 1, show HT.sIx [a, b, c, d, e].length [a, b, c, d, e].length (some 3) = 3 from HT.sIx_nat _ _ 3]
  rfl
def spLReason (K : PySem.W.Frag) : Sp := fun vs H Q _ => ∃ (l : Addr) (wd : Wds), vs = [.ref l] ∧ SqL K H l (wd.list.map V.str) ∧ wd.Ok ∧ ∀ H', Same H H' → Q (optV (reasonW wd)) H'
section
variable {P : Program} {w : World} {K : PySem.W.Frag} {mg : Str → Option Value} {base : Heap} {CB CE CP fE fP : Addr}
theorem ok_lReason {f : Addr} {fd : FuncData} (F : Fun K "_law_reason" "_law_reason" sLReason f fd) : FnOk P w K mg base CX0 1 f fd ["_law_words"] (spLReason K) := by
  refine F.ok scLReason (fun vs H Q E h => ?_) (fun cdv A outer s H vs Q E hr h => ?_)
  · obtain ⟨l, wd, rfl, _⟩ := h
    rfl
  · obtain ⟨l, wd, rfl, hS, hok, q⟩ := h
    refine ⟨_, pss_cons (ps_if (PW.pt (pw_and (pt_cmpR op_eq (pe_ix ix_list (pv 0) pe_int (fun _ _ => rfl)) pe_str (nomark _)) (pw_and1 (pt_cmpR op_ne (pe_ix ix_list (pv 0) pe_int (fun _ _ => rfl)) pe_str (nomark _))))) (pss_one (ps_ret pe_str)) pss_nil) <|
      pss_cons (ps_if (PW.pt (pw_and (pt_cmpR op_eq (pe_ix ix_list (pv 0) pe_int (fun _ _ => rfl)) pe_str (nomark _)) (pw_and1 (pt_cmpR op_ne (pe_ix ix_list (pv 0) pe_int (fun _ _ => rfl)) pe_str (nomark _))))) (pss_one (ps_ret pe_str)) pss_nil) <|
      pss_one (ps_ret (pe_ifExp (PW.pt (pw_and (pt_cmpR (op_eqD hr.units) (pe_slice sl_list (pv 0) (po_some pe_int) (po_some pe_int)) (pe_lst (pa_cons pe_str (pa_cons pe_str pa_nil))) (nomark _)) (pw_and1 (pt_cmpR op_eq (pe_ix ix_list (pv 0) pe_int (fun _ _ => rfl)) pe_str (nomark _))))) pe_str pe_non)), ?_⟩
    have q0 := q H (Same.refl H)
    unfold reasonW at q0 q
    have lok : PyData.canLay0 (.str wd.l) = true := word_ok (.inr (.inl hok.2.1))
    have cok : PyData.canLay0 (.str wd.c) = true := word_ok (.inr (.inr (.inl hok.2.2.1)))
    by_cases h1 : wd.l = "apart"
    · have n1 : ¬ wd.l = "ladder" := by
        rw [h1]
        decide +kernel
      rw [if_neg fun z => n1 z.1, if_neg fun z => z h1] at q0 q
      refine ⟨_, rfl, l, _, 1, _, rfl, rfl, hS, atI_nat (j := 1) rfl, rfl, _, rfl, ?_⟩
      rw [dec_str, decide_eq_true h1]
      refine iteT ⟨_, rfl, l, _, 2, _, rfl, rfl, hS, atI_nat (j := 2) rfl, rfl, _, rfl, ?_⟩
      rw [dec_str]
      by_cases h2 : wd.c = "first"
      · rw [if_neg fun z => z h2] at q0 q
        rw [decide_eq_true h2]
        refine iteF ⟨_, rfl, l, _, 1, _, rfl, rfl, hS, atI_nat (j := 1) rfl, rfl, _, rfl, ?_⟩
        rw [dec_str, decide_eq_true h1]
        refine iteT ⟨_, rfl, l, _, 4, _, rfl, rfl, hS, atI_nat (j := 4) rfl, rfl, _, rfl, ?_⟩
        rw [dec_str]
        by_cases h3 : wd.e = "once"
        · rw [if_pos h3] at q0 q
          rw [decide_eq_true h3]
          refine iteF ?_
          refine ⟨_, rfl, 1, rfl, 3, rfl, l, _, rfl, hS, fun p np => ?_⟩
          refine ⟨by show 2 ≤ sizeLine; decide, fun p2 np2 => ?_⟩
          have sA := (same_new (o := .lst (cutV (wd.list.map V.str) (some 1) (some 3))) np).trans (same_new (o := .lst [.str "ladder", .str "special"]) np2)
          refine ⟨.list [.str wd.l, .str wd.c], .list [.str "ladder", .str "special"], .lst (SqL.of (xs := [.str wd.l, .str wd.c]) ?_) (.cons (.str _) (.cons (.str _) .nil)), .lst (SqL.of upd_same) (.cons (.str _) (.cons (.str _) .nil)), lay_two lok cok, by decide +kernel, _, rfl, ?_⟩
          · rw [upd_ne (ne_of_none upd_same np2), upd_same]
            exact congrArg (fun z => some (HO.lst z)) (cut13 _ _ _ _ _)
          rw [eqv_two, decide_eq_false n1, Bool.false_and]
          exact iteF (q _ sA)
        · rw [if_neg h3] at q0
          rw [decide_eq_false h3]
          exact iteT q0
      · rw [if_pos h2] at q0
        rw [decide_eq_false h2]
        exact iteT q0
    · refine ⟨_, rfl, l, _, 1, _, rfl, rfl, hS, atI_nat (j := 1) rfl, rfl, _, rfl, ?_⟩
      rw [dec_str, decide_eq_false h1]
      refine iteF ⟨_, rfl, l, _, 1, _, rfl, rfl, hS, atI_nat (j := 1) rfl, rfl, _, rfl, ?_⟩
      rw [dec_str, decide_eq_false h1]
      refine iteF ?_
      refine ⟨_, rfl, 1, rfl, 3, rfl, l, _, rfl, hS, fun p np => ?_⟩
      refine ⟨by show 2 ≤ sizeLine; decide, fun p2 np2 => ?_⟩
      have sA := (same_new (o := .lst (cutV (wd.list.map V.str) (some 1) (some 3))) np).trans (same_new (o := .lst [.str "ladder", .str "special"]) np2)
      refine ⟨.list [.str wd.l, .str wd.c], .list [.str "ladder", .str "special"], .lst (SqL.of (xs := [.str wd.l, .str wd.c]) ?_) (.cons (.str _) (.cons (.str _) .nil)), .lst (SqL.of upd_same) (.cons (.str _) (.cons (.str _) .nil)), lay_two lok cok, by decide +kernel, _, rfl, ?_⟩
      · rw [upd_ne (ne_of_none upd_same np2), upd_same]
        exact congrArg (fun z => some (HO.lst z)) (cut13 _ _ _ _ _)
      rw [eqv_two]
      by_cases h2 : wd.l = "ladder" ∧ wd.c = "special"
      · rw [decide_eq_true h2.1, decide_eq_true h2.2, Bool.true_and]
        refine iteT ⟨_, rfl, l, _, 4, _, rfl, rfl, seq_same sA hS, atI_nat (j := 4) rfl, rfl, _, rfl, ?_⟩
        rw [dec_str]
        by_cases h3 : wd.e = "refused"
        · rw [if_pos ⟨h2.1, h2.2, h3⟩] at q
          rw [decide_eq_true h3]
          exact iteT (q _ sA)
        · rw [if_neg fun z => h3 z.2.2, if_pos h1] at q
          rw [decide_eq_false h3]
          exact iteF (q _ sA)
      · rw [if_neg fun z => h2 ⟨z.1, z.2.1⟩, if_pos h1] at q
        have e : (decide (wd.l = "ladder") && decide (wd.c = "special")) = false := by
          cases hd : decide (wd.l = "ladder") with
          | false => rfl
          | true =>
            rw [Bool.true_and]
            exact decide_eq_false fun z => h2 ⟨of_decide_eq_true hd, z⟩
        rw [e]
        exact iteF (q _ sA)
end
end K1
namespace K1
open PySem PySem.Spec PyProof.Rows L2 Bk
/-! rows of a paper, without a heap -/
/-- a row: the two shapes (none: no tuple), the place (none: no integer); no: no tuple of three -/
inductive RV
  | tri (a b : Option (List Str)) (i : Option Int)
  | no
def pfi (rs : List (List Str)) (i : Nat) : List (List Str × List Str) := (List.range i).flatMap fun j => (rs.drop j).map fun b => (rs.getD j [], b)
def pf (rs : List (List Str)) : List (List Str × List Str) := pfi rs rs.length
def pairsL (o : Str) (n : Nat) : List (List Str × List Str) := (List.range n).flatMap fun k => pf (shapesL o (k + 1))
def same2 (a b : List Str) (p : List Str × List Str) : Bool := decide (p = (a, b)) || decide (p = (b, a))
def apartW (x y : Str) : Bool := (decide (x = "own") && decide (y = "own")) || ((decide (x = "own") && decide (y = "seen")) || (decide (x = "seen") && decide (y = "own")))
def apartI (a b : List Str) (j : Nat) : Bool := match a[j]?, b[j]? with
  | some x, some y => apartW x y
  | _, _ => false
def ixOk (a b : List Str) (i : Int) : Bool := decide (0 ≤ i) && decide (i < (a.length : Int)) && apartI a b i.toNat
def numK (ps : List (List Str × List Str)) (i : Int) (k : Nat) : Option Nat := match ps[k]? with
  | some p => if ixOk p.1 p.2 i = true then some k else none
  | none => none
def numQ (ps : List (List Str × List Str)) (a b : List Str) (i : Int) : Option Nat := match ps.findIdx? (same2 a b) with
  | some k => numK ps i k
  | none => none
def numP (ps : List (List Str × List Str)) : RV → Option Nat
  | .tri (some a) (some b) (some i) => numQ ps a b i
  | _ => none
def okS (o : Str) (n : Nat) (a : List Str) : Bool := decide (1 ≤ a.length) && decide (a.length ≤ n) && letB o a
def plA (a b : List Str) : List Nat := (List.range a.length).filter (apartI a b)
def rowQ (o : Str) (n : Nat) (a b : List Str) (i : Int) : Bool := okS o n a && okS o n b && decide (a.length = b.length) && (plA a b).any fun j => decide ((j : Int) = i)
def rowL (o : Str) (n : Nat) : RV → Bool
  | .tri (some a) (some b) (some i) => rowQ o n a b i
  | _ => false
def shOk : RV → Prop
  | .tri a b _ => (∀ r, a = some r → ∀ w ∈ r, w ∈ shW) ∧ ∀ r, b = some r → ∀ w ∈ r, w ∈ shW
  | .no => True
def toldA (ks : List Nat) (k : Nat) : List Nat := if k ∈ ks then ks else ks ++ [k]
/-- the numbers that are told (none: a row has none) -/
def toldL (ps : List (List Str × List Str)) : List RV → List Nat → Option (List Nat)
  | [], ks => some ks
  | r :: rs, ks => match numP ps r with
    | none => none
    | some k => toldL ps rs (toldA ks k)
def soundP (o : Str) (n : Nat) (rs : List RV) : Bool := match toldL (pairsL o n) rs [] with
  | none => false
  | some ks => decide (ks.length = (pairsL o n).length)
def pairOf : RV → Option (List Str × List Str)
  | .tri (some a) (some b) _ => some (a, b)
  | _ => none
def coverL (o : Str) (n : Nat) (rs : List RV) : Bool := (List.range n).all fun k => (shapesL o (k + 1)).all fun x => (shapesL o (k + 1)).all fun y => rs.any fun r => decide (pairOf r = some (x, y)) || decide (pairOf r = some (y, x))
def paperL (o : Str) (n : Nat) (rs : List RV) : Bool := rs.all (rowL o n) && coverL o n rs
theorem allR_all : ∀ (n : Nat) (r : List Str), r.length = n → (∀ w ∈ r, w ∈ shW) → r ∈ allR n
  | 0, r, h, _ => by
    rw [List.eq_nil_of_length_eq_zero h]
    exact List.mem_singleton.mpr rfl
  | n + 1, r, h, hw => by
    rcases List.eq_nil_or_concat r with e | ⟨l, b, e⟩
    · rw [e] at h
      simp at h
    · rw [List.concat_eq_append] at e
      subst e
      rw [List.length_append] at h
      have hl := allR_all n l (by simpa using h) fun w hx => hw w (List.mem_append_left _ hx)
      show l ++ [b] ∈ stepR (allR n)
      unfold stepR
      rw [List.mem_flatMap]
      exact ⟨l, hl, List.mem_map.mpr ⟨b, hw b (List.mem_append_right _ (List.mem_singleton.mpr rfl)), rfl⟩⟩
theorem shapes_mem {o : Str} {n : Nat} {r : List Str} : r ∈ shapesL o n ↔ (r.length = n ∧ ∀ w ∈ r, w ∈ shW) ∧ letB o r = true := by
  unfold shapesL
  rw [List.mem_filter]
  constructor
  · exact fun h => ⟨allR_mem n r h.1, h.2⟩
  · exact fun h => ⟨allR_all n r h.1.1 h.1.2, h.2⟩
theorem allR_nodup {n : Nat} (h : n ≤ 3) : (allR n).Nodup := by
  have e : n = 0 ∨ n = 1 ∨ n = 2 ∨ n = 3 := by omega
  rcases e with rfl | rfl | rfl | rfl <;> decide +kernel
theorem shapes_nodup {o : Str} {n : Nat} (h : n ≤ 3) : (shapesL o n).Nodup := List.Pairwise.filter _ (allR_nodup h)
theorem pfi_mem {rs : List (List Str)} {i : Nat} (hi : i ≤ rs.length) {p : List Str × List Str} : p ∈ pfi rs i ↔ ∃ j k, j < i ∧ j ≤ k ∧ rs[j]? = some p.1 ∧ rs[k]? = some p.2 := by
  unfold pfi
  rw [List.mem_flatMap]
  constructor
  · rintro ⟨j, hj, h⟩
    rw [List.mem_range] at hj
    rw [List.mem_map] at h
    obtain ⟨b, hb, rfl⟩ := h
    obtain ⟨k, hk⟩ := List.mem_iff_getElem?.mp hb
    rw [List.getElem?_drop] at hk
    refine ⟨j, j + k, hj, by omega, ?_, hk⟩
    have : j < rs.length := by omega
    rw [List.getElem?_eq_getElem this, List.getD_eq_getElem?_getD, List.getElem?_eq_getElem this]
    rfl
  · rintro ⟨j, k, hj, hk, h1, h2⟩
    refine ⟨j, List.mem_range.mpr hj, List.mem_map.mpr ⟨p.2, ?_, ?_⟩⟩
    · refine List.mem_iff_getElem?.mpr ⟨k - j, ?_⟩
      rw [List.getElem?_drop, show j + (k - j) = k by omega]
      exact h2
    · rw [List.getD_eq_getElem?_getD, h1]
      rfl
theorem pf_mem {rs : List (List Str)} {a b : List Str} (ha : a ∈ rs) (hb : b ∈ rs) : (a, b) ∈ pf rs ∨ (b, a) ∈ pf rs := by
  obtain ⟨j, hj⟩ := List.mem_iff_getElem?.mp ha
  obtain ⟨k, hk⟩ := List.mem_iff_getElem?.mp hb
  have lj := (List.getElem?_eq_some_iff.mp hj).1
  have lk := (List.getElem?_eq_some_iff.mp hk).1
  by_cases h : j ≤ k
  · exact .inl ((pfi_mem (Nat.le_refl _)).mpr ⟨j, k, lj, h, hj, hk⟩)
  · exact .inr ((pfi_mem (Nat.le_refl _)).mpr ⟨k, j, lk, by omega, hk, hj⟩)
theorem pf_in {rs : List (List Str)} {p : List Str × List Str} (h : p ∈ pf rs) : p.1 ∈ rs ∧ p.2 ∈ rs := by
  obtain ⟨j, k, _, _, h1, h2⟩ := (pfi_mem (Nat.le_refl _)).mp h
  exact ⟨List.mem_of_getElem? h1, List.mem_of_getElem? h2⟩
theorem pairs_in {o : Str} {n : Nat} {p : List Str × List Str} (h : p ∈ pairsL o n) : ∃ k, k < n ∧ p.1 ∈ shapesL o (k + 1) ∧ p.2 ∈ shapesL o (k + 1) := by
  unfold pairsL at h
  rw [List.mem_flatMap] at h
  obtain ⟨k, hk, h⟩ := h
  exact ⟨k, List.mem_range.mp hk, pf_in h⟩
theorem pairs_mem {o : Str} {n k : Nat} {a b : List Str} (hk : k < n) (ha : a ∈ shapesL o (k + 1)) (hb : b ∈ shapesL o (k + 1)) : (a, b) ∈ pairsL o n ∨ (b, a) ∈ pairsL o n := by
  unfold pairsL
  rw [List.mem_flatMap, List.mem_flatMap]
  rcases pf_mem ha hb with h | h
  · exact .inl ⟨k, List.mem_range.mpr hk, h⟩
  · exact .inr ⟨k, List.mem_range.mpr hk, h⟩
theorem same2_iff {a b : List Str} {p : List Str × List Str} : same2 a b p = true ↔ p = (a, b) ∨ p = (b, a) := by
  unfold same2
  rw [Bool.or_eq_true, decide_eq_true_iff, decide_eq_true_iff]
/-- no two pairs of the list are the same, whichever stands first -/
def Apt (p q : List Str × List Str) : Prop := p ≠ q ∧ p ≠ (q.2, q.1)
theorem pfi_apt {rs : List (List Str)} (hn : rs.Nodup) : ∀ i, i ≤ rs.length → (pfi rs i).Pairwise Apt
  | 0, _ => List.Pairwise.nil
  | i + 1, hi => by
    have ih := pfi_apt hn i (by omega)
    have e : pfi rs (i + 1) = pfi rs i ++ (rs.drop i).map fun b => (rs.getD i [], b) := by
      unfold pfi
      rw [List.range_succ, List.flatMap_append]
      simp
    have inj : ∀ {j k : Nat} {x : List Str}, rs[j]? = some x → rs[k]? = some x → j = k := by
      intro j k x h1 h2
      exact (List.getElem?_inj (List.getElem?_eq_some_iff.mp h1).1 hn).mp (h1.trans h2.symm)
    have hg : rs[i]? = some (rs.getD i []) := by
      have : i < rs.length := by omega
      rw [List.getD_eq_getElem?_getD, List.getElem?_eq_getElem this]
      rfl
    rw [e, List.pairwise_append]
    refine ⟨ih, ?_, ?_⟩
    · rw [List.pairwise_map]
      refine List.Pairwise.imp ?_ (List.Nodup.sublist (List.drop_sublist i rs) hn)
      intro x y hxy
      refine ⟨fun h => hxy (Prod.mk.inj h).2, fun h => ?_⟩
      obtain ⟨h1, h2⟩ := Prod.mk.inj h
      exact hxy (h2.trans h1)
    · intro p hp q hq
      obtain ⟨j, k, hj, hk, h1, h2⟩ := (pfi_mem (by omega)).mp hp
      rw [List.mem_map] at hq
      obtain ⟨b, hb, rfl⟩ := hq
      obtain ⟨m, hm⟩ := List.mem_iff_getElem?.mp hb
      rw [List.getElem?_drop] at hm
      refine ⟨fun h => ?_, fun h => ?_⟩
      · rw [h] at h1
        have := inj h1 hg
        omega
      · rw [h] at h1
        have := inj h1 hm
        omega
theorem pairs_apt {o : Str} : ∀ {n : Nat}, n ≤ 3 → (pairsL o n).Pairwise Apt
  | 0, _ => List.Pairwise.nil
  | n + 1, h => by
    have e : pairsL o (n + 1) = pairsL o n ++ pf (shapesL o (n + 1)) := by
      unfold pairsL
      rw [List.range_succ, List.flatMap_append]
      simp
    rw [e, List.pairwise_append]
    refine ⟨pairs_apt (by omega), pfi_apt (shapes_nodup h) _ (Nat.le_refl _), ?_⟩
    intro p hp q hq
    obtain ⟨k, hk, h1, _⟩ := pairs_in hp
    obtain ⟨q1, q2⟩ := pf_in hq
    have l1 := (shapes_mem.mp h1).1.1
    have l2 := (shapes_mem.mp q1).1.1
    have l3 := (shapes_mem.mp q2).1.1
    refine ⟨fun e => ?_, fun e => ?_⟩
    · rw [e] at l1
      omega
    · rw [e] at l1
      have l1 : q.2.length = k + 1 := l1
      omega
theorem apt_inj {ps : List (List Str × List Str)} (h : ps.Pairwise Apt) {j k : Nat} {p q : List Str × List Str} (hj : ps[j]? = some p) (hk : ps[k]? = some q) (e : p = q ∨ p = (q.2, q.1)) : j = k := by
  obtain ⟨lj, rfl⟩ := List.getElem?_eq_some_iff.mp hj
  obtain ⟨lk, rfl⟩ := List.getElem?_eq_some_iff.mp hk
  rw [List.pairwise_iff_getElem] at h
  rcases Nat.lt_trichotomy j k with z | z | z
  · obtain ⟨n1, n2⟩ := h j k lj lk z
    rcases e with e | e
    · exact absurd e n1
    · exact absurd e n2
  · exact z
  · obtain ⟨n1, n2⟩ := h k j lk lj z
    rcases e with e | e
    · exact absurd e.symm n1
    · refine absurd ?_ n2
      rw [e]
theorem apartW_comm (x y : Str) : apartW x y = apartW y x := by
  unfold apartW
  have n : ¬ (("own" : Str) = "seen") := by decide +kernel
  have n2 : ¬ (("seen" : Str) = "own") := by decide +kernel
  by_cases h1 : x = "own" <;> by_cases h2 : y = "own" <;> by_cases h3 : x = "seen" <;> by_cases h4 : y = "seen" <;> simp_all
theorem apartI_comm (a b : List Str) (j : Nat) : apartI a b j = apartI b a j := by
  unfold apartI
  cases a[j]? <;> cases b[j]? <;> simp [apartW_comm]
theorem plA_any {a b : List Str} (i : Int) : ((plA a b).any fun j => decide ((j : Int) = i)) = ixOk a b i := by
  unfold plA ixOk
  by_cases h : 0 ≤ i ∧ i < (a.length : Int)
  · obtain ⟨k, rfl⟩ := Int.eq_ofNat_of_zero_le h.1
    rw [decide_eq_true h.1, decide_eq_true h.2, Int.toNat_natCast, Bool.and_self, Bool.true_and, Bool.eq_iff_iff, List.any_eq_true]
    constructor
    · rintro ⟨j, hj, e⟩
      have : j = k := by have := of_decide_eq_true e; omega
      subst this
      exact (List.mem_filter.mp hj).2
    · intro hk
      exact ⟨k, List.mem_filter.mpr ⟨List.mem_range.mpr (by have := h.2; omega), hk⟩, decide_eq_true rfl⟩
  · have e : (decide (0 ≤ i) && decide (i < (a.length : Int))) = false := by
      rw [Bool.and_eq_false_iff]
      by_cases h0 : 0 ≤ i
      · exact .inr (decide_eq_false fun z => h ⟨h0, z⟩)
      · exact .inl (decide_eq_false h0)
    rw [e, Bool.false_and, List.any_eq_false]
    intro j hj
    have := List.mem_range.mp (List.mem_filter.mp hj).1
    simp only [decide_eq_true_eq]
    intro e2
    exact h ⟨by omega, by omega⟩
/-- a row has a number just where the law takes it for one -/
theorem rowL_num {o : Str} {n : Nat} {r : RV} (hs : shOk r) : rowL o n r = (numP (pairsL o n) r).isSome := by
  cases r with
  | no => rfl
  | tri a b i =>
    cases a with
    | none => rfl
    | some a =>
      cases b with
      | none => rfl
      | some b =>
        cases i with
        | none => rfl
        | some i =>
          obtain ⟨ha, hb⟩ := hs
          have ha := ha a rfl
          have hb := hb b rfl
          show rowQ o n a b i = (numQ (pairsL o n) a b i).isSome
          unfold rowQ numQ
          rw [plA_any]
          cases hf : (pairsL o n).findIdx? (same2 a b) with
          | none =>
            show _ = false
            rw [List.findIdx?_eq_none_iff] at hf
            by_cases hk : (okS o n a && okS o n b && decide (a.length = b.length)) = true
            · exfalso
              rw [Bool.and_eq_true, Bool.and_eq_true] at hk
              obtain ⟨⟨k1, k2⟩, k3⟩ := hk
              unfold okS at k1 k2
              rw [Bool.and_eq_true, Bool.and_eq_true, decide_eq_true_iff, decide_eq_true_iff] at k1 k2
              have k3 := of_decide_eq_true k3
              have m1 : a ∈ shapesL o (a.length - 1 + 1) := shapes_mem.mpr ⟨⟨by omega, ha⟩, k1.2⟩
              have m2 : b ∈ shapesL o (a.length - 1 + 1) := shapes_mem.mpr ⟨⟨by omega, hb⟩, k2.2⟩
              rcases pairs_mem (n := n) (by omega) m1 m2 with m | m
              · have := hf _ m
                rw [same2_iff.mpr (.inl rfl)] at this
                cases this
              · have := hf _ m
                rw [same2_iff.mpr (.inr rfl)] at this
                cases this
            · rw [Bool.not_eq_true] at hk
              rw [hk, Bool.false_and]
          | some k =>
            show _ = Option.isSome (numK (pairsL o n) i k)
            unfold numK
            obtain ⟨hk, h1, _⟩ := List.findIdx?_eq_some_iff_getElem.mp hf
            rw [List.getElem?_eq_getElem hk]
            have h1 := same2_iff.mp h1
            obtain ⟨m, hm, p1, p2⟩ := pairs_in (List.getElem_mem hk)
            revert h1 p1 p2
            generalize (pairsL o n)[k] = p
            intro h1 p1 p2
            show _ = Option.isSome (if ixOk p.1 p.2 i = true then some k else none)
            have q1 := shapes_mem.mp p1
            have q2 := shapes_mem.mp p2
            have fin : ∀ {x y : List Str}, p = (x, y) → okS o n x = true ∧ okS o n y = true ∧ x.length = y.length := by
              intro x y e
              subst e
              have q1 : (x.length = m + 1 ∧ ∀ w ∈ x, w ∈ shW) ∧ letB o x = true := q1
              have q2 : (y.length = m + 1 ∧ ∀ w ∈ y, w ∈ shW) ∧ letB o y = true := q2
              unfold okS
              rw [q1.2, q2.2, q1.1.1, q2.1.1]
              refine ⟨?_, ?_, rfl⟩ <;> (rw [Bool.and_true, Bool.and_eq_true]; exact ⟨decide_eq_true (by omega), decide_eq_true (by omega)⟩)
            rcases h1 with e | e
            · obtain ⟨f1, f2, f3⟩ := fin e
              rw [f1, f2, decide_eq_true f3, e]
              show (true && true && true && ixOk a b i) = Option.isSome (if ixOk a b i = true then some k else none)
              cases ixOk a b i <;> rfl
            · obtain ⟨f1, f2, f3⟩ := fin e
              have c : ixOk b a i = ixOk a b i := by
                unfold ixOk
                rw [f3, apartI_comm]
              rw [f1, f2, decide_eq_true f3.symm, e]
              show (true && true && true && ixOk a b i) = Option.isSome (if ixOk b a i = true then some k else none)
              rw [c]
              cases ixOk a b i <;> rfl
theorem toldA_nodup {ks : List Nat} {k : Nat} (h : ks.Nodup) : (toldA ks k).Nodup := by
  unfold toldA
  split
  · exact h
  · rename_i hk
    rw [List.nodup_append]
    refine ⟨h, List.nodup_cons.mpr ⟨by simp, List.nodup_nil⟩, fun a ha b hb => ?_⟩
    rw [List.mem_singleton.mp hb]
    exact fun e => hk (e ▸ ha)
theorem toldA_mem {ks : List Nat} {k j : Nat} : j ∈ toldA ks k ↔ j ∈ ks ∨ j = k := by
  unfold toldA
  split
  · rename_i hk
    constructor
    · exact .inl
    · rintro (h | rfl)
      · exact h
      · exact hk
  · rw [List.mem_append, List.mem_singleton]
theorem toldL_some {ps : List (List Str × List Str)} : ∀ (rs : List RV) (ks : List Nat), (∀ r ∈ rs, (numP ps r).isSome = true) → ks.Nodup → ∃ ks', toldL ps rs ks = some ks' ∧ ks'.Nodup ∧ ∀ j, j ∈ ks' ↔ j ∈ ks ∨ ∃ r ∈ rs, numP ps r = some j
  | [], ks, _, hn => ⟨ks, rfl, hn, fun j => by simp⟩
  | r :: rs, ks, h, hn => by
    have h0 := h r List.mem_cons_self
    cases e : numP ps r with
    | none =>
      rw [e] at h0
      cases h0
    | some k =>
      obtain ⟨ks', h1, h2, h3⟩ := toldL_some rs (toldA ks k) (fun x hx => h x (List.mem_cons_of_mem _ hx)) (toldA_nodup hn)
      refine ⟨ks', ?_, h2, fun j => ?_⟩
      · show (match numP ps r with | none => none | some k => toldL ps rs (toldA ks k)) = _
        rw [e]
        exact h1
      · rw [h3 j, toldA_mem]
        constructor
        · rintro ((h | rfl) | ⟨x, hx, hj⟩)
          · exact .inl h
          · exact .inr ⟨r, List.mem_cons_self, e⟩
          · exact .inr ⟨x, List.mem_cons_of_mem _ hx, hj⟩
        · rintro (h | ⟨x, hx, hj⟩)
          · exact .inl (.inl h)
          · rcases List.mem_cons.mp hx with rfl | hx
            · rw [e] at hj
              exact .inl (.inr (Option.some.inj hj).symm)
            · exact .inr ⟨x, hx, hj⟩
theorem toldL_none {ps : List (List Str × List Str)} : ∀ (rs : List RV) (ks : List Nat), (∃ r ∈ rs, numP ps r = none) → toldL ps rs ks = none
  | [], _, h => by
    obtain ⟨_, h, _⟩ := h
    cases h
  | r :: rs, ks, h => by
    show (match numP ps r with | none => none | some k => toldL ps rs (toldA ks k)) = _
    cases e : numP ps r with
    | none => rfl
    | some k =>
      refine toldL_none rs _ ?_
      obtain ⟨x, hx, hn⟩ := h
      rcases List.mem_cons.mp hx with rfl | hx
      · rw [e] at hn
        cases hn
      · exact ⟨x, hx, hn⟩
theorem cnt {ks : List Nat} {N : Nat} (hn : ks.Nodup) (hl : ∀ k ∈ ks, k < N) : ks.length = N ↔ ∀ k, k < N → k ∈ ks := by
  have hp : ks.Perm ((List.range N).filter fun k => decide (k ∈ ks)) := by
    rw [List.perm_ext_iff_of_nodup hn (List.Pairwise.filter _ List.nodup_range)]
    intro a
    rw [List.mem_filter, List.mem_range, decide_eq_true_iff]
    exact ⟨fun h => ⟨hl a h, h⟩, fun h => h.2⟩
  rw [hp.length_eq]
  constructor
  · intro h k hk
    have : ((List.range N).filter fun k => decide (k ∈ ks)).length = (List.range N).length := by rw [h, List.length_range]
    rw [List.length_filter_eq_length_iff] at this
    exact of_decide_eq_true (this k (List.mem_range.mpr hk))
  · intro h
    have : ((List.range N).filter fun k => decide (k ∈ ks)).length = (List.range N).length := by
      rw [List.length_filter_eq_length_iff]
      exact fun k hk => decide_eq_true (h k (List.mem_range.mp hk))
    rw [this, List.length_range]
theorem num_pair {ps : List (List Str × List Str)} {r : RV} {k : Nat} (h : numP ps r = some k) : ∃ p a b, ps[k]? = some p ∧ pairOf r = some (a, b) ∧ (p = (a, b) ∨ p = (b, a)) := by
  cases r with
  | no => cases h
  | tri a b i =>
    cases a with
    | none => cases h
    | some a =>
      cases b with
      | none => cases h
      | some b =>
        cases i with
        | none => cases h
        | some i =>
          have h : numQ ps a b i = some k := h
          unfold numQ at h
          cases hf : ps.findIdx? (same2 a b) with
          | none =>
            rw [hf] at h
            cases h
          | some m =>
            rw [hf] at h
            obtain ⟨hk, h1, _⟩ := List.findIdx?_eq_some_iff_getElem.mp hf
            have h : numK ps i m = some k := h
            unfold numK at h
            rw [List.getElem?_eq_getElem hk] at h
            have h : (if ixOk ps[m].1 ps[m].2 i = true then some m else none) = some k := h
            split at h
            · have : m = k := Option.some.inj h
              subst this
              exact ⟨ps[m], a, b, List.getElem?_eq_getElem hk, rfl, same2_iff.mp h1⟩
            · cases h
/-- what the program finds is what the law finds -/
theorem sound_paper {o : Str} {n : Nat} (hn : n ≤ 3) {rs : List RV} (hs : ∀ r ∈ rs, shOk r) : soundP o n rs = paperL o n rs := by
  unfold soundP paperL
  by_cases ha : ∀ r ∈ rs, (numP (pairsL o n) r).isSome = true
  · obtain ⟨ks, h1, h2, h3⟩ := toldL_some rs [] ha List.nodup_nil
    have hall : rs.all (rowL o n) = true := by
      rw [List.all_eq_true]
      intro r hr
      rw [rowL_num (hs r hr)]
      exact ha r hr
    rw [h1, hall, Bool.true_and]
    show decide (ks.length = (pairsL o n).length) = coverL o n rs
    have hlt : ∀ k ∈ ks, k < (pairsL o n).length := by
      intro k hk
      rcases (h3 k).mp hk with h | ⟨r, _, hr⟩
      · cases h
      · obtain ⟨p, _, _, hp, _⟩ := num_pair hr
        exact (List.getElem?_eq_some_iff.mp hp).1
    rw [Bool.eq_iff_iff, decide_eq_true_iff, cnt h2 hlt]
    unfold coverL
    rw [List.all_eq_true]
    constructor
    · intro h m hm
      rw [List.all_eq_true]
      intro x hx
      rw [List.all_eq_true]
      intro y hy
      rw [List.any_eq_true]
      have hm := List.mem_range.mp hm
      have : ∃ p, p ∈ pairsL o n ∧ (p = (x, y) ∨ p = (y, x)) := by
        rcases pairs_mem hm hx hy with z | z
        · exact ⟨_, z, .inl rfl⟩
        · exact ⟨_, z, .inr rfl⟩
      obtain ⟨p, hp, e⟩ := this
      obtain ⟨k, hk⟩ := List.mem_iff_getElem?.mp hp
      rcases (h3 k).mp (h k (List.getElem?_eq_some_iff.mp hk).1) with z | ⟨r, hr, hr2⟩
      · cases z
      · refine ⟨r, hr, ?_⟩
        obtain ⟨p', a, b, hp', e1, e2⟩ := num_pair hr2
        rw [hk] at hp'
        cases hp'
        rw [e1, Bool.or_eq_true, decide_eq_true_iff, decide_eq_true_iff]
        rcases e with e | e <;> rcases e2 with e2 | e2 <;> (rw [e2] at e; obtain ⟨z1, z2⟩ := Prod.mk.inj e; subst z1 z2)
        · exact .inl rfl
        · exact .inr rfl
        · exact .inr rfl
        · exact .inl rfl
    · intro h k hk
      obtain ⟨m, hm, p1, p2⟩ := pairs_in (List.getElem_mem hk)
      have h0 := h m (List.mem_range.mpr hm)
      rw [List.all_eq_true] at h0
      have h0 := h0 _ p1
      rw [List.all_eq_true] at h0
      have h0 := h0 _ p2
      rw [List.any_eq_true] at h0
      obtain ⟨r, hr, e⟩ := h0
      rw [Bool.or_eq_true, decide_eq_true_iff, decide_eq_true_iff] at e
      have h4 := ha r hr
      cases hk' : numP (pairsL o n) r with
      | none =>
        rw [hk'] at h4
        cases h4
      | some k' =>
        obtain ⟨p', a, b, hp', e1, e2⟩ := num_pair hk'
        have : k = k' := by
          refine apt_inj (pairs_apt hn) (List.getElem?_eq_getElem hk) hp' ?_
          rcases e with e | e <;> (rw [e1] at e; have e := Option.some.inj e)
          · rcases e2 with e2 | e2
            · left
              rw [e2, e]
            · right
              rw [e2]
              exact e.symm
          · rcases e2 with e2 | e2
            · right
              rw [e2, e]
            · left
              obtain ⟨z1, z2⟩ := Prod.mk.inj e
              rw [e2, z1, z2]
        subst this
        exact (h3 k).mpr (.inr ⟨r, hr, hk'⟩)
  · have : ∃ r ∈ rs, numP (pairsL o n) r = none := by
      refine Classical.byContradiction fun hc => ha fun r hr => ?_
      cases e : numP (pairsL o n) r with
      | none => exact absurd ⟨r, hr, e⟩ hc
      | some k => rfl
    rw [toldL_none rs [] this]
    obtain ⟨r, hr, e⟩ := this
    have hall : rs.all (rowL o n) = false := by
      rw [List.all_eq_false]
      refine ⟨r, hr, ?_⟩
      rw [rowL_num (hs r hr), e]
      exact Bool.false_ne_true
    rw [hall, Bool.false_and]
end K1
namespace K1
open PySem PySem.Spec PyProof.Rows L2 Bk
theorem scIsShape : FnScope ["value", "word"] ["value"] (defScope sIsShape) := ⟨rfl, rfl, rfl, by decide +kernel, rfl, by decide +kernel, by decide +kernel⟩
theorem scApart : FnScope ["one", "other", "index", "words"] ["one", "other", "index"] (defScope sApart) := ⟨rfl, rfl, rfl, by decide +kernel, rfl, by decide +kernel, by decide +kernel⟩
theorem scPairs : FnScope ["book", "places", "found", "many", "rows", "one", "other", "at"] ["book", "places"] (defScope sPairs) := ⟨rfl, rfl, rfl, by decide +kernel, rfl, by decide +kernel, by decide +kernel⟩
/-- no tuple -/
def NoT (K : PySem.W.Frag) (H : Hp) (x : V) : Prop := ∃ t : String, TyX K H x (.type t) ∧ kitB t "tuple" = some false
theorem sqT_ty {K : PySem.W.Frag} {H : Hp} {q : Addr} {xs : List V} (h : SqT K H q xs) : TyX K H (.ref q) (.type "tuple") := by
  rcases h with (h | ⟨o, h⟩) | ⟨o, _, _, e, c, _⟩
  · exact .base (.tup h)
  · exact .fTuple h
  · exact .kTuple e c
def spIsShape (K : PySem.W.Frag) : Sp := fun vs H Q _ => ∃ v, vs = [v] ∧ ((∃ (q : Addr) (r : List Str), v = .ref q ∧ TQ K H q r ∧ r.length ≤ 100 ∧ ∀ H', Same H H' → Q (.bl true) H') ∨ (NoT K H v ∧ Q (.bl false) H))
def spApart (K : PySem.W.Frag) : Sp := fun vs H Q _ => ∃ (q q' : Addr) (a b : List Str) (j : Nat) (x y : Str), vs = [.ref q, .ref q', .int (j : Int)] ∧ TQ K H q a ∧ TQ K H q' b ∧ a[j]? = some x ∧ b[j]? = some y ∧ x ∈ shW ∧ y ∈ shW ∧ ∀ H', Same H H' → Q (.bl (apartI a b j)) H'
theorem eqv_tw (a b c d : Str) : PyData.eqv (.tuple [.str a, .str b]) (.tuple [.str c, .str d]) = (decide (a = c) && decide (b = d)) := by
  rw [PyData.eqv, PyData.eqvAll, PyData.eqvAll, PyData.eqvAll, eqv_s, eqv_s, Bool.and_true]
theorem lay_tw {a b : Str} (ha : a ∈ shW) (hb : b ∈ shW) : SeqAt.shaped (.tuple [.str a, .str b]) = true := by
  have e : (shW.all fun a => shW.all fun b => SeqAt.shaped (.tuple [.str a, .str b])) = true := by decide +kernel
  rw [List.all_eq_true] at e
  have e := e a ha
  rw [List.all_eq_true] at e
  exact e b hb
theorem all_true : ∀ n : Nat, (List.replicate n true).all id = true
  | 0 => rfl
  | n + 1 => by
    rw [List.replicate_succ, List.all_cons, all_true n]
    rfl
section
variable {P : Program} {w : World} {K : PySem.W.Frag} {mg : Str → Option Value} {base : Heap} {CB CE CP : Addr}
theorem ok_isShape {f : Addr} {fd : FuncData} (F : Fun K "_is_shape" "_is_shape" sIsShape f fd) (T : Tx mg) (mA : mg "all" = none) : FnOk P w K mg base CX0 1 f fd ["value"] (spIsShape K) := by
  refine F.ok scIsShape (fun vs H Q E h => ?_) (fun cdv A outer s H vs Q E hr h => ?_)
  · obtain ⟨v, rfl, _⟩ := h
    rfl
  · obtain ⟨v, rfl, h⟩ := h
    refine ⟨_, pss_one (ps_ret (pe_and (pe_callB call_isi (by rfl) T.isi (by decide +kernel) (pa_cons (pv 0) (pa_cons (pe_bltn (v := .ty "tuple") (u := .type "tuple") (by rfl) T.tuple (by decide +kernel) rfl) pa_nil)))
      (pe_one (pe_callB (cr_all rfl) (by rfl) mA (by decide +kernel) (pa_cons (pe_lc (own := [("word", 1)]) (g := gName 1) (by rfl) scIsShape.nd (pi_tup (pv 0)) (blkOk_by (own := [("word", 1)]) (N := ["value", "word"]) (sc := defScope sIsShape) (by decide +kernel)) (fun _ _ _ _ _ => pg_name (i := 1) scIsShape.nd rfl (Or.inl rfl)) (fun _ _ _ _ _ => pts_nil)
        (fun _ _ _ _ _ => pe_callB (show CallR _ (.builtin "isinstance") (rIsi K) from call_isi) (by rfl) T.isi (by decide +kernel) (pa_cons (pv 1) (pa_cons (pe_bltn (v := .ty "str") (u := .type "str") (by rfl) T.str (by decide +kernel) rfl) pa_nil)))) pa_nil))))), ?_⟩
    rcases h with ⟨p, r, rfl, hp, hlen, q⟩ | ⟨⟨t, ty, kt⟩, q⟩
    · refine ⟨_, rfl, _, _, _, _, true, rfl, .ty "tuple", sqT_ty hp, kit_ty (by decide +kernel), true, rfl, iteT ?_⟩
      refine ⟨_, rfl, p, rfl, ⟨_, hp⟩, fun D nD => lc_tup (K := K) (a := p) (xs := r.map V.str) (fun i H' => Same H H' ∧ H' D = some (.lst ((List.replicate i true).map V.bl))) ⟨same_new nD, upd_same⟩ (fun i H' _ h => sqT_same hp h.1) ?_ ?_⟩
      · rintro i y H2 hy ⟨sm, hD⟩
        obtain ⟨a, ha, rfl⟩ := str_at2 hy
        have hi : i < r.length := (List.getElem?_eq_some_iff.mp ha).1
        refine ⟨rfl, ?_⟩
        unfold tYes
        refine iteT ⟨_, rfl, _, _, _, _, true, rfl, .ty "str", .base (.str a), kit_ty (by decide +kernel), _, hD, ?_, same_upd sm nD, ?_⟩
        · rw [List.length_map, List.length_replicate]
          exact small1000 (by omega)
        · rw [upd_same, List.replicate_succ', List.map_append]
          rfl
      · rintro H2 ⟨sm, hD⟩
        refine ⟨D, _, rfl, SqL.of hD, ?_⟩
        rw [all_true]
        exact q _ sm
    · exact ⟨_, rfl, _, _, _, _, false, rfl, .ty "tuple", ty, kit_ty kt, false, rfl, iteF q⟩
theorem ok_apart {f : Addr} {fd : FuncData} (F : Fun K "_are_apart_at" "_are_apart_at" sApart f fd) : FnOk P w K mg base CX0 1 f fd ["one", "other", "index"] (spApart K) := by
  refine F.ok scApart (fun vs H Q E h => ?_) (fun cdv A outer s H vs Q E hr h => ?_)
  · obtain ⟨q, q', a, b, j, x, y, rfl, _⟩ := h
    rfl
  · obtain ⟨p, p', a, b, j, x, y, rfl, hp, hp', ha, hb, hx, hy, q⟩ := h
    refine ⟨_, pss_cons (ps_set (i := 3) scApart.nd rfl (Or.inl rfl) (pe_tup (pa_cons (pe_ix ix_tup (pv 0) (pv 2) (fun _ _ => rfl)) (pa_cons (pe_ix ix_tup (pv 1) (pv 2) (fun _ _ => rfl)) pa_nil)))) <|
      pss_one (ps_ret (pe_or (pe_cmpR (op_eqD hr.units) (pv 3) (pe_tup (pa_cons pe_str (pa_cons pe_str pa_nil))) (nomark _)) (pe_or (pe_cmpR (op_eqD hr.units) (pv 3) (pe_tup (pa_cons pe_str (pa_cons pe_str pa_nil))) (nomark _)) (pe_one (pe_cmpR (op_eqD hr.units) (pv 3) (pe_tup (pa_cons pe_str (pa_cons pe_str pa_nil))) (nomark _)))))), ?_⟩
    have hA : (a.map V.str)[j]? = some (V.str x) := by rw [List.getElem?_map, ha]; rfl
    have hB : (b.map V.str)[j]? = some (V.str y) := by rw [List.getElem?_map, hb]; rfl
    refine ⟨_, rfl, _, rfl, p, _, _, _, rfl, rfl, hp, atI_nat hA, _, rfl, _, rfl, p', _, _, _, rfl, rfl, hp', atI_nat hB, by show 2 ≤ sizeLine; decide, fun t nt => ?_⟩
    have st := same_new (o := .tup [.str x, .str y]) nt
    have one : ∀ {H1 : Hp} {p2 : Addr} {c d : Str}, Same (upd H t (.tup [.str x, .str y])) H1 → H1 p2 = none → Dp K (upd H1 p2 (.tup [.str c, .str d])) (.ref t) (.tuple [.str x, .str y]) ∧ Dp K (upd H1 p2 (.tup [.str c, .str d])) (.ref p2) (.tuple [.str c, .str d]) := by
      intro H1 p2 c d s1 n2
      exact ⟨.tup (SqT.of ((same_new n2) _ _ (s1 _ _ upd_same))) (.cons (.str _) (.cons (.str _) .nil)), .tup (SqT.of upd_same) (.cons (.str _) (.cons (.str _) .nil))⟩
    have lw := lay_tw hx hy
    have e : apartI a b j = apartW x y := by
      unfold apartI
      rw [ha, hb]
    rw [e] at q
    unfold apartW at q
    refine ⟨_, rfl, by show 2 ≤ sizeLine; decide, fun p2 n2 => ⟨.tuple [.str x, .str y], .tuple [.str "own", .str "own"], (one (Same.refl _) n2).1, (one (Same.refl _) n2).2, lw, by decide +kernel, _, rfl, ?_⟩⟩
    rw [eqv_tw]
    have s2 := st.trans (same_new (o := .tup [.str "own", .str "own"]) n2)
    refine ite2 (fun c => ?_) (fun c => ?_)
    · rw [c, Bool.true_or] at q
      exact q _ s2
    · rw [Bool.not_eq_true] at c
      rw [c, Bool.false_or] at q
      refine ⟨_, rfl, by show 2 ≤ sizeLine; decide, fun p3 n3 => ⟨.tuple [.str x, .str y], .tuple [.str "own", .str "seen"], (one (same_new n2) n3).1, (one (same_new n2) n3).2, lw, by decide +kernel, _, rfl, ?_⟩⟩
      rw [eqv_tw]
      have s3 := s2.trans (same_new (o := .tup [.str "own", .str "seen"]) n3)
      refine ite2 (fun c => ?_) (fun c => ?_)
      · rw [c, Bool.true_or] at q
        exact q _ s3
      · rw [Bool.not_eq_true] at c
        rw [c, Bool.false_or] at q
        refine ⟨_, rfl, by show 2 ≤ sizeLine; decide, fun p4 n4 => ⟨.tuple [.str x, .str y], .tuple [.str "seen", .str "own"], (one ((same_new n2).trans (same_new n3)) n4).1, (one ((same_new n2).trans (same_new n3)) n4).2, lw, by decide +kernel, ?_⟩⟩
        rw [eqv_tw]
        exact q _ (s3.trans (same_new n4))
end
end K1
namespace K1
open PySem PySem.Spec PyProof.Rows L2 Bk
/-- an inner walk of a comprehension -/
theorem in_it {J : It} {n : Nat} {G : Hp → Prop} {Y : Nat → Hp → V → Hp → Prop} (w : Walk J n G Y) {g1 : TG} {tt1 : TT} {te : TE} {vs1 : List Nat} {σ2 : L2.St} {H4 : Hp} {D : Addr} {Nx : Hp → Prop} (Pv : Nat → Hp → Prop) (h0 : Pv 0 H4) (hG : ∀ j H, j ≤ n → Pv j H → G H)
    (hs : ∀ j x H H', j < n → Pv j H → Y j H x H' → g1 x (wipe σ2 vs1) H' fun σ3 H5 => wipe σ3 vs1 = wipe σ2 vs1 ∧ tt1 σ3 H5 fun c H6 =>
      if c = true then te σ3 H6 fun y H7 => ∃ acc, H7 D = some (.lst acc) ∧ acc.length < sizeLine ∧ Pv (j + 1) (upd H7 D (.lst (acc ++ [y]))) else Pv (j + 1) H6) (hd : ∀ H, Pv n H → Nx H) :
    ∃ W1 : Nat → Nat → Hp → Prop, (∃ m, W1 0 m H4) ∧ ∀ j k H, W1 j k H →
      (J.stop j H ∧ Nx H) ∨ (J.go j H ∧ ∃ Nx1 : Hp → Prop, (∀ H', Nx1 H' → ∃ k', k' < k ∧ W1 (j + 1) k' H') ∧ ∀ x H', J.yld j H x H' → g1 x (wipe σ2 vs1) H' fun σ3 H5 => wipe σ3 vs1 = wipe σ2 vs1 ∧ tt1 σ3 H5 fun b H6 =>
        if b = true then te σ3 H6 fun y H7 => ∃ acc, H7 D = some (.lst acc) ∧ acc.length < sizeLine ∧ Nx1 (upd H7 D (.lst (acc ++ [y]))) else Nx1 H6) := by
  refine ⟨fun j m H => m = n - j ∧ j ≤ n ∧ Pv j H, ⟨n, by simp, Nat.zero_le _, h0⟩, ?_⟩
  rintro j m H ⟨rfl, hj, p⟩
  have q := hG j H hj p
  by_cases lt : j < n
  · exact .inr ⟨w.goes j H lt q, Pv (j + 1), fun H' p' => ⟨n - (j + 1), by omega, rfl, lt, p'⟩, fun x H' y => hs j x H H' lt p (w.yields j H x H' lt q y)⟩
  · have e : j = n := by omega
    subst e
    exact .inl ⟨w.stops H q, hd H p⟩
theorem lc2_it {J : It} {n : Nat} {G : Hp → Prop} {Y : Nat → Hp → V → Hp → Prop} (w : Walk J n G Y) {g : TG} {tt : TT} {wi1 : TI} {g1 : TG} {tt1 : TT} {te : TE} {vs vs1 : List Nat} {σ : L2.St} {H1 : Hp} {D : Addr} {Qd : Hp → Prop} (Pv : Nat → Hp → Prop) (h0 : Pv 0 (upd H1 D (.lst []))) (hG : ∀ i H, i ≤ n → Pv i H → G H)
    (hs : ∀ i x H H', i < n → Pv i H → Y i H x H' → g x (wipe σ vs) H' fun σ2 H2 => wipe σ2 vs = wipe σ vs ∧ tt σ2 H2 fun b H3 =>
      if b = true then wi1 σ2 H3 fun J1 H4 => ∃ W1 : Nat → Nat → Hp → Prop, (∃ m, W1 0 m H4) ∧ ∀ j k H, W1 j k H →
      (J1.stop j H ∧ Pv (i + 1) H) ∨ (J1.go j H ∧ ∃ Nx1 : Hp → Prop, (∀ H', Nx1 H' → ∃ k', k' < k ∧ W1 (j + 1) k' H') ∧ ∀ x H', J1.yld j H x H' → g1 x (wipe σ2 vs1) H' fun σ3 H5 => wipe σ3 vs1 = wipe σ2 vs1 ∧ tt1 σ3 H5 fun b H6 =>
        if b = true then te σ3 H6 fun y H7 => ∃ acc, H7 D = some (.lst acc) ∧ acc.length < sizeLine ∧ Nx1 (upd H7 D (.lst (acc ++ [y]))) else Nx1 H6) else Pv (i + 1) H3) (hd : ∀ H, Pv n H → Qd H) :
    ∃ W : Nat → Nat → Hp → Prop, (∃ m, W 0 m (upd H1 D (.lst []))) ∧ ∀ i m H, W i m H →
      (J.stop i H ∧ Qd H) ∨ (J.go i H ∧ ∃ Nx : Hp → Prop, (∀ H', Nx H' → ∃ m', m' < m ∧ W (i + 1) m' H') ∧ ∀ x H', J.yld i H x H' → g x (wipe σ vs) H' fun σ2 H2 => wipe σ2 vs = wipe σ vs ∧ tt σ2 H2 fun b H3 =>
        if b = true then wi1 σ2 H3 fun J1 H4 => ∃ W1 : Nat → Nat → Hp → Prop, (∃ m, W1 0 m H4) ∧ ∀ j k H, W1 j k H →
      (J1.stop j H ∧ Nx H) ∨ (J1.go j H ∧ ∃ Nx1 : Hp → Prop, (∀ H', Nx1 H' → ∃ k', k' < k ∧ W1 (j + 1) k' H') ∧ ∀ x H', J1.yld j H x H' → g1 x (wipe σ2 vs1) H' fun σ3 H5 => wipe σ3 vs1 = wipe σ2 vs1 ∧ tt1 σ3 H5 fun b H6 =>
        if b = true then te σ3 H6 fun y H7 => ∃ acc, H7 D = some (.lst acc) ∧ acc.length < sizeLine ∧ Nx1 (upd H7 D (.lst (acc ++ [y]))) else Nx1 H6) else Nx H3) := by
  refine ⟨fun i m H => m = n - i ∧ i ≤ n ∧ Pv i H, ⟨n, by simp, Nat.zero_le _, h0⟩, ?_⟩
  rintro i m H ⟨rfl, hi, p⟩
  have q := hG i H hi p
  by_cases lt : i < n
  · exact .inr ⟨w.goes i H lt q, Pv (i + 1), fun H' p' => ⟨n - (i + 1), by omega, rfl, lt, p'⟩, fun x H' y => hs i x H H' lt p (w.yields i H x H' lt q y)⟩
  · have e : i = n := by omega
    subst e
    exact .inl ⟨w.stops H q, hd H p⟩
/-- a pair of shapes -/
def PairAt (K : PySem.W.Frag) (H : Hp) (q : Addr) (p : List Str × List Str) : Prop := ∃ a b, SqT K H q [.ref a, .ref b] ∧ TQ K H a p.1 ∧ TQ K H b p.2
theorem PairAt.same {K : PySem.W.Frag} {H H' : Hp} {q : Addr} {p : List Str × List Str} (h : PairAt K H q p) (s : Same H H') : PairAt K H' q p := let ⟨a, b, x, y, z⟩ := h; ⟨a, b, sqT_same x s, sqT_same y s, sqT_same z s⟩
theorem PairAt.lst {K : PySem.W.Frag} {H : Hp} {q D : Addr} {p : List Str × List Str} {xs ys : List V} (h : PairAt K H q p) (e : H D = some (.lst xs)) : PairAt K (upd H D (.lst ys)) q p := let ⟨a, b, x, y, z⟩ := h; ⟨a, b, sqT_lst x e, sqT_lst y e, sqT_lst z e⟩
def spPairs (K : PySem.W.Frag) (CB : Addr) : Sp := fun vs H Q _ => ∃ (b : Addr) (wd : Wds) (n : Nat), vs = [.ref b, .int (n : Int)] ∧ BookAt CB H b wd ∧ wd.Ok ∧ n ≤ 3 ∧ ∀ (l : Addr) (ps : List Addr) (H' : Hp), H l = none → Same H H' → H' l = some (.lst (ps.map V.ref)) → Lst2 (PairAt K H') ps (pairsL wd.o n) → Q (.ref l) H'
theorem cut_drop (xs : List V) (j : Nat) (h : j ≤ xs.length) : cutV xs (some (j : Int)) none = xs.drop j := by
  unfold cutV
  rw [show HT.sIx xs.length 0 (some (j : Int)) = min j xs.length from HT.sIx_nat _ _ j, HT.sIx_none, Nat.min_eq_left h, List.take_of_length_le]
  rw [List.length_drop]
  exact Nat.le_refl _
theorem pfi_len {rs : List (List Str)} : ∀ i, i ≤ rs.length → (pfi rs i).length ≤ i * rs.length
  | 0, _ => Nat.zero_le _
  | i + 1, h => by
    have e : pfi rs (i + 1) = pfi rs i ++ (rs.drop i).map fun b => (rs.getD i [], b) := by
      unfold pfi
      rw [List.range_succ, List.flatMap_append]
      simp
    rw [e, List.length_append, List.length_map, List.length_drop, Nat.succ_mul]
    have := pfi_len i (rs := rs) (by omega)
    omega
theorem shapes_small {o : Str} {n : Nat} (h : n ≤ 3) : (shapesL o n).length ≤ 27 := by
  have h1 : (shapesL o n).length ≤ (allR n).length := List.length_filter_le _ _
  have h2 := allR_small h
  omega
theorem pf_small {o : Str} {n : Nat} (h : n ≤ 3) : (pf (shapesL o n)).length ≤ 729 := by
  have h1 := shapes_small (o := o) h
  have h2 := pfi_len (rs := shapesL o n) _ (Nat.le_refl _)
  have h3 : (shapesL o n).length * (shapesL o n).length ≤ 27 * 27 := Nat.mul_le_mul h1 h1
  unfold pf
  omega
theorem pairs_succ {o : Str} {n : Nat} : pairsL o (n + 1) = pairsL o n ++ pf (shapesL o (n + 1)) := by
  unfold pairsL
  rw [List.range_succ, List.flatMap_append]
  simp
theorem pairs_small {o : Str} : ∀ {n : Nat}, n ≤ 3 → (pairsL o n).length ≤ 729 * n
  | 0, _ => Nat.le_refl _
  | n + 1, h => by
    rw [pairs_succ, List.length_append]
    have h1 := pairs_small (o := o) (n := n) (by omega)
    have h2 := pf_small (o := o) h
    omega
theorem small5 {k : Nat} (h : k < 5000) : k < sizeLine := Nat.lt_of_lt_of_le h (by decide)
section
variable {P : Program} {w : World} {K : PySem.W.Frag} {mg : Str → Option Value} {base : Heap} {CB CE CP : Addr}
theorem ok_pairs {f fS : Addr} {fd fdS : FuncData} (F : Fun K "_pairs" "_pairs" sPairs f fd) (T : Tx mg) (mE : mg "enumerate" = none) (mS : mg "shapes" = some (.ref fS)) (kS : PySem.W.keepIn K (.ref fS) = true) (bS : Binds K fdS ["book", "places"] []) (GS : FnOk P w K mg base (CX P w) 4 fS fdS ["book", "places"] (spShapes K CB CE CP)) :
    FnOk P w K mg base (CX P w) 5 f fd ["book", "places"] (spPairs K CB) := by
  refine F.okX scPairs (fun vs H Q E h => ?_) (fun cdv A outer s H vs Q E hr h => ?_)
  · obtain ⟨b, wd, n, rfl, _⟩ := h
    rfl
  · obtain ⟨b, wd, n, rfl, hb, hok, hn, q⟩ := h
    refine ⟨_, pss_cons (ps_set (i := 2) scPairs.nd rfl (Or.inl rfl) (pe_lst pa_nil)) <|
      pss_cons (ps_for (passes_of rfl) rfl (pi_range2 (by rfl) T.range (pa_cons pe_int (pa_cons (pe_op op_add (pv 1) pe_int) pa_nil))) (pg_name (i := 3) scPairs.nd rfl (Or.inl rfl))
        (pss_cons (ps_set (i := 4) scPairs.nd rfl (Or.inr rfl) (pe_call GS hr (by rfl) mS kS bS .nil passL (pa_cons (pv 0) (pa_cons (pv 3) pa_nil)))) <|
        pss_one (ps_expr (pe_bm PySem.F.plainAttrs_list PySem.F.slot_list_extend PySem.F.type_list_extend mt_extend (pv 2) (pa_cons
          (pe_lc2 (own := [("one", 5), ("other", 6), ("at", 7)]) (vs1 := [6]) (g := gTup K 2 (gCons (gName 7) (gCons (gName 5) gNil))) (g1 := gName 6) (tt := tYes) (tt1 := tYes) (wi1 := iList K (tSl (rSlL K) (tVar 4) (tPart (tVar 7)) tNoPart)) (te := tTup (tCons (tVar 5) (tCons (tVar 6) tNil))) rfl scPairs.nd (pi_enum (by rfl) mE (pa_cons (pv 4) pa_nil))
          (blkOk_by (own := [("one", 5), ("other", 6), ("at", 7)]) (N := ["book", "places", "found", "many", "rows", "one", "other", "at"]) (sc := defScope sPairs) (by decide +kernel)) (by decide)
          (fun _ _ _ _ _ => pg_tup rfl (pgs_cons (pg_name (i := 7) scPairs.nd rfl (Or.inl rfl)) (pgs_cons (pg_name (i := 5) scPairs.nd rfl (Or.inl rfl)) pgs_nil))) (fun _ _ _ _ _ => pts_nil)
          (fun _ _ _ _ _ => by exact pi_list (pe_slice sl_list (pv 4) (po_some (pv 7)) po_none)) (fun _ _ _ _ _ => pg_name (i := 6) scPairs.nd rfl (Or.inl rfl)) (fun _ _ _ _ _ => pts_nil) (fun _ _ _ _ _ => pe_tup (pa_cons (pv 5) (pa_cons (pv 6) pa_nil)))) pa_nil))))) <|
      pss_one (ps_ret (pv 2)), ?_⟩
    refine ⟨by show 0 ≤ sizeLine; decide, fun l nl => ?_⟩
    have sl := same_new (o := .lst []) nl
    refine ⟨_, rfl, _, _, rfl, rfl, 1, (n : Int) + 1, rfl, ⟨by decide, by decide, by omega, by omega⟩, ?_⟩
    rw [show ((n : Int) + 1 - 1).toNat = n by omega]
    refine for_range (lo := 1) (n := n) (fun i σ H' => ∃ (ps : List Addr) (v3 v4 : Option V), σ = [some (.ref b), some (.int n), some (.ref l), v3, v4, none, none, none] ∧ Same H H' ∧ H' l = some (.lst (ps.map V.ref)) ∧ Lst2 (PairAt K H') ps (pairsL wd.o i)) ⟨[], none, none, rfl, sl, upd_same, Lst2.nil⟩ ?_ ?_
    · rintro i σ H1 hi ⟨ps, v3, v4, rfl, s1, hl, hP⟩
      refine ⟨_, rfl, _, rfl, _, _, rfl, .inl ⟨b, wd, i + 1, rfl, hb.same s1, hok, (by show V.int (1 + i) = _; rw [show (1 : Int) + i = ((i + 1 : Nat) : Int) by omega]), by omega, by omega, fun rl rs H2 nrl s2 hrl hT => ?_⟩⟩
      have nrl0 : H rl = none := none_of s1 nrl
      have hrlL : rl ≠ l := (ne_of_none hl nrl).symm
      have hl2 := s2 _ _ hl
      refine ⟨_, rfl, .inl ⟨rfl, _, SqL.of hl2⟩, ?_⟩
      refine ⟨_, rfl, rl, _, rfl, SqL.of hrl, fun D nD => ?_⟩
      have sD := same_new (o := .lst []) nD
      have hDl : l ≠ D := ne_of_none hl2 nD
      have hDr : rl ≠ D := ne_of_none hrl nD
      have hlen : rs.length = (shapesL wd.o (i + 1)).length := hT.1
      have hTq := hT.tq (K := K)
      refine lc2_it (walk_enum (K := K) (a := rl) (xs := rs.map V.ref)) (fun j H' => Same H2 H' ∧ ∃ qs : List Addr, H' D = some (.lst (qs.map V.ref)) ∧ Lst2 (PairAt K H') qs (pfi (shapesL wd.o (i + 1)) j)) ⟨sD, [], upd_same, Lst2.nil⟩ (fun j H' _ h => SqL.of (h.1 _ _ hrl)) ?_ ?_
      · rintro j x H3 H4 hj ⟨s3, qs, hD, hQ⟩ ⟨t, y, z, rfl, nt, rfl, hy, hz⟩
        cases hy
        obtain ⟨q0, hq0, rfl⟩ := ref_at hz
        have st := same_new (o := .tup [.int (j : Nat), .ref q0]) nt
        refine ⟨t, _, rfl, SqT.of upd_same, rfl, _, _, rfl, _, _, rfl, rfl, rfl, ?_⟩
        unfold tYes
        refine iteT ?_
        refine ⟨_, rfl, _, rfl, (j : Int), rfl, rl, _, rfl, SqL.of (st _ _ (s3 _ _ hrl)), fun c nc => ?_⟩
        have hjl : j ≤ (rs.map V.ref).length := by omega
        rw [cut_drop _ _ hjl, ← List.map_drop]
        have sc := same_new (o := .lst ((rs.drop j).map V.ref)) nc
        have s5 := (s3.trans st).trans sc
        have hjr : j < rs.length := by rw [List.length_map] at hj; exact hj
        obtain ⟨r0, hr0, _⟩ := hTq.2 j q0 hq0
        refine ⟨c, rfl, ⟨_, SqL.of upd_same⟩, ?_⟩
        have lenQ : (pfi (shapesL wd.o (i + 1)) j).length ≤ 729 := by
          have h1 := shapes_small (o := wd.o) (n := i + 1) (by omega)
          have h2 := pfi_len (rs := shapesL wd.o (i + 1)) j (by omega)
          have h3 : j * (shapesL wd.o (i + 1)).length ≤ 27 * 27 := Nat.mul_le_mul (by omega) h1
          omega
        refine in_it (D := D) (Nx := fun H' => Same H2 H' ∧ ∃ qs : List Addr, H' D = some (.lst (qs.map V.ref)) ∧ Lst2 (PairAt K H') qs (pfi (shapesL wd.o (i + 1)) (j + 1))) (g1 := gName 6) (tt1 := tYes) (vs1 := [6]) (te := tTup (tCons (tVar 5) (tCons (tVar 6) tNil))) (σ2 := [some (V.ref b), some (V.int n), some (V.ref l), some (V.int (1 + i)), some (V.ref rl), some (V.ref q0), none, some (V.int j)]) (walk_list (K := K) (a := c) (xs := (rs.drop j).map V.ref)) (fun k H' => Same H2 H' ∧ H' c = some (.lst ((rs.drop j).map V.ref)) ∧ ∃ qs : List Addr, H' D = some (.lst (qs.map V.ref)) ∧ Lst2 (PairAt K H') qs (pfi (shapesL wd.o (i + 1)) j ++ (((shapesL wd.o (i + 1)).drop j).take k).map fun b => ((shapesL wd.o (i + 1)).getD j [], b)))
          ⟨s5, upd_same, qs, (st.trans sc) _ _ hD, by rw [List.take_zero, List.map_nil, List.append_nil]; exact hQ.imp fun _ _ h => h.same (st.trans sc)⟩ (fun k H' _ h => SqL.of h.2.1) ?_ ?_
        · rintro k x H5 H6 hk ⟨s6, hc5, qs5, hD5, hQ5⟩ ⟨rfl, hx⟩
          obtain ⟨q1, hq1, rfl⟩ := ref_at hx
          rw [List.getElem?_drop] at hq1
          obtain ⟨r1, hr1, hq1r⟩ := hTq.2 _ q1 hq1
          obtain ⟨r0', hr0', hq0r⟩ := hTq.2 j q0 hq0
          rw [hr0] at hr0'
          cases hr0'
          refine ⟨rfl, ?_⟩
          unfold tYes
          refine iteT ?_
          refine ⟨_, rfl, _, rfl, by show 2 ≤ sizeLine; decide, fun m nm => ⟨qs5.map V.ref, ?_, ?_, ?_, ?_, qs5 ++ [m], ?_, ?_⟩⟩
          · exact (same_new nm) _ _ hD5
          · rw [List.length_map, hQ5.1, List.length_append, List.length_map, List.length_take, List.length_drop]
            have h1 := shapes_small (o := wd.o) (n := i + 1) (by omega)
            exact small1000 (by omega)
          · exact same_upd (s6.trans (same_new nm)) nD
          · have : c ≠ D := fun e => by
              rw [e] at nc
              have := (st _ _ hD)
              rw [nc] at this
              cases this
            rw [upd_ne this]
            exact (same_new nm) _ _ hc5
          · rw [upd_same, List.map_append]
            rfl
          · have hD6 : (upd H6 m (.tup [.ref q0, .ref q1])) D = some (.lst (qs5.map V.ref)) := (same_new nm) _ _ hD5
            have e1 : (shapesL wd.o (i + 1)).getD j [] = r0 := by rw [List.getD_eq_getElem?_getD, hr0]; rfl
            rw [List.take_add_one, List.getElem?_drop, hr1, Option.toList_some, List.map_append, ← List.append_assoc]
            refine ((hQ5.imp fun _ _ h => h.same (same_new nm)).app (q := m) ?_).imp fun _ _ h => h.lst hD6
            rw [e1]
            exact ⟨q0, q1, SqT.of upd_same, sqT_same hq0r (s6.trans (same_new nm)), sqT_same hq1r (s6.trans (same_new nm))⟩
        · rintro H5 ⟨s6, hc5, qs5, hD5, hQ5⟩
          refine ⟨s6, qs5, hD5, ?_⟩
          have e : pfi (shapesL wd.o (i + 1)) (j + 1) = pfi (shapesL wd.o (i + 1)) j ++ ((shapesL wd.o (i + 1)).drop j).map fun b => ((shapesL wd.o (i + 1)).getD j [], b) := by
            unfold pfi
            rw [List.range_succ, List.flatMap_append]
            simp
          rw [e]
          rw [List.length_map, List.length_drop, hlen, ← List.length_drop, List.take_length] at hQ5
          exact hQ5
      · rintro H3 ⟨s3, qs, hD, hQ⟩
        rw [List.length_map, hlen] at hQ
        have hl3 := s3 _ _ hl2
        have hDl3 : D ≠ l := hDl.symm
        refine ⟨l, D, _, _, rfl, rfl, hl3, hD, ?_, ?_⟩
        · rw [List.length_map, List.length_map, hP.1, hQ.1]
          have h1 := pairs_small (o := wd.o) (n := i) (by omega)
          have h2 := pf_small (o := wd.o) (n := i + 1) (by omega)
          unfold pf at h2
          exact Nat.le_of_lt (small5 (by omega))
        · refine ⟨ps ++ qs, _, _, rfl, same_upd ((s1.trans s2).trans s3) nl, by rw [upd_same, List.map_append], ?_⟩
          rw [pairs_succ]
          exact ((hP.imp fun _ _ h => h.same (s2.trans s3)).cat hQ).imp fun _ _ h => h.lst hl3
    · rintro σ H1 ⟨ps, v3, v4, rfl, s1, hl, hP⟩
      exact ⟨_, rfl, q l ps H1 nl s1 hl hP⟩
end
end K1
namespace K1
open PySem PySem.Spec PyProof.Rows L2 Bk
def rowD (r : List Str) : PyData := .tuple (r.map PyData.str)
def rowsD (rs : List (List Str)) : PyData := .list (rs.map rowD)
theorem dp_strs {K : PySem.W.Frag} {H : Hp} : ∀ r : List Str, DpAll K H (r.map V.str) (r.map PyData.str)
  | [] => .nil
  | a :: r => .cons (.str a) (dp_strs r)
theorem dp_rows {K : PySem.W.Frag} {H : Hp} : ∀ (qs : List Addr) (rs : List (List Str)), Lst2 (TQ K H) qs rs → DpAll K H (qs.map V.ref) (rs.map rowD)
  | [], [], _ => .nil
  | [], _ :: _, h => by
    have := h.1
    simp at this
  | _ :: _, [], h => by
    have := h.1
    simp at this
  | q :: qs, r :: rs, h => by
    obtain ⟨r2, h1, h2⟩ := h.2 0 q rfl
    cases h1
    exact .cons (.tup h2 (dp_strs r)) (dp_rows qs rs ⟨by simpa using h.1, fun i b hb => h.2 (i + 1) b hb⟩)
theorem lay_strs : ∀ r : List Str, (∀ w ∈ r, PyData.canLay0 (.str w) = true) → PyData.canLayAll0 (r.map PyData.str) = true
  | [], _ => rfl
  | a :: r, h => by
    rw [List.map_cons, PyData.canLayAll0, h a List.mem_cons_self, lay_strs r fun w hw => h w (List.mem_cons_of_mem _ hw)]
    rfl
theorem dep_strs : ∀ r : List Str, PyData.depthAll (r.map PyData.str) = 0
  | [] => by rw [List.map_nil, PyData.depthAll]
  | a :: r => by
    rw [List.map_cons, PyData.depthAll, dep_strs r, PyData.depth]
    rfl
theorem lay_rows : ∀ rs : List (List Str), (∀ r ∈ rs, ∀ w ∈ r, PyData.canLay0 (.str w) = true) → PyData.canLayAll0 (rs.map rowD) = true
  | [], _ => rfl
  | r :: rs, h => by
    rw [List.map_cons, PyData.canLayAll0, lay_rows rs fun x hx => h x (List.mem_cons_of_mem _ hx), Bool.and_true]
    unfold rowD
    rw [PyData.canLay0]
    exact lay_strs r (h r List.mem_cons_self)
theorem dep_rows : ∀ rs : List (List Str), PyData.depthAll (rs.map rowD) ≤ 1
  | [] => by
    rw [List.map_nil, PyData.depthAll]
    exact Nat.zero_le _
  | r :: rs => by
    have := dep_rows rs
    rw [List.map_cons, PyData.depthAll]
    have e : PyData.depth (rowD r) = 1 := by
      unfold rowD
      rw [PyData.depth, dep_strs]
    rw [e]
    omega
theorem shaped_rows {rs : List (List Str)} (h : ∀ r ∈ rs, ∀ w ∈ r, PyData.canLay0 (.str w) = true) : SeqAt.shaped (rowsD rs) = true := by
  unfold SeqAt.shaped rowsD
  rw [PyData.canLay0, lay_rows rs h, Bool.true_and, PyData.depth]
  have := dep_rows rs
  exact decide_eq_true (by omega)
theorem shapes_lay (o : Str) (n : Nat) : SeqAt.shaped (rowsD (shapesL o n)) = true := shaped_rows fun r hr w hw => by
  unfold shapesL at hr
  exact word_ok (.inr (.inr (.inr (.inr (.inr ((allR_mem n r (List.mem_filter.mp hr).1).2 w hw))))))
theorem eqv_self {d : PyData} (h : SeqAt.shaped d = true) : PyData.eqv d d = true := SeqAt.eqv_refl _ (by
  unfold SeqAt.shaped at h
  rw [Bool.and_eq_true] at h
  exact h.1)
theorem sqT_keep {K : PySem.W.Frag} {p q : Addr} {H H' : Hp} {xs : List V} (k : KeepP p H H') (hp : Pool H p) (h : SqT K H q xs) : SqT K H' q xs := by
  obtain ⟨_, _, e, _⟩ := hp
  rcases h with (h | ⟨o, h⟩) | h
  · exact .inl (.inl (k _ _ (fun z => by rw [z, e] at h; cases h) h))
  · exact .inl (.inr ⟨o, k _ _ (fun z => by rw [z, e] at h; cases h) h⟩)
  · exact .inr h
theorem BookAt.keep {CB p : Addr} {H H' : Hp} {x : Addr} {wd : Wds} (h : BookAt CB H x wd) (k : KeepP p H H') (hp : Pool H p) : BookAt CB H' x wd := by
  obtain ⟨_, _, e, _⟩ := hp
  obtain ⟨dx, d, a, b⟩ := h
  exact ⟨dx, d, k _ _ (fun z => by rw [z, e] at a; cases a) a, k _ _ (fun z => by rw [z, e] at b; cases b) b⟩
/-- what the law's turn holds -/
structure Hold (K : PySem.W.Frag) (CB p l b : Addr) (wd : Wds) (u : Addr) (ps : List Addr) (rs : List (List Str)) (H : Hp) : Prop where
  po : Pool H p
  wo : H l = some (.lst (wd.list.map V.str))
  bo : BookAt CB H b wd
  du : H u = some (.lst (ps.map V.ref))
  ro : Lst2 (TQ K H) ps rs
  lp : l ≠ p
  up : u ≠ p
section
variable {K : PySem.W.Frag} {CB p l b u : Addr} {wd : Wds} {ps : List Addr} {rs : List (List Str)} {H H' : Hp}
theorem Hold.same (h : Hold K CB p l b wd u ps rs H) (s : Same H H') : Hold K CB p l b wd u ps rs H' := ⟨h.po.same s, s _ _ h.wo, h.bo.same s, s _ _ h.du, h.ro.tq s, h.lp, h.up⟩
theorem Hold.keep (h : Hold K CB p l b wd u ps rs H) (k : KeepP p H H') (hp : Pool H' p) : Hold K CB p l b wd u ps rs H' :=
  ⟨hp, k _ _ h.lp h.wo, h.bo.keep k h.po, k _ _ h.up h.du, h.ro.imp fun _ _ t => sqT_keep k h.po t, h.lp, h.up⟩
theorem Hold.lst {D : Addr} {xs ys : List V} (h : Hold K CB p l b wd u ps rs H) (e : H D = some (.lst xs)) (n1 : p ≠ D) (n2 : l ≠ D) (n3 : u ≠ D) : Hold K CB p l b wd u ps rs (upd H D (.lst ys)) := by
  refine ⟨?_, ?_, ?_, ?_, h.ro.tl e, h.lp, h.up⟩
  · obtain ⟨g, s, e1, r⟩ := h.po
    exact ⟨g, s, by rw [upd_ne n1]; exact e1, r⟩
  · rw [upd_ne n2]
    exact h.wo
  · obtain ⟨dx, d, a, c⟩ := h.bo
    refine ⟨dx, d, ?_, ?_⟩
    · rw [upd_ne (fun z => by rw [z, e] at a; cases a)]
      exact a
    · rw [upd_ne (fun z => by rw [z, e] at c; cases c)]
      exact c
  · rw [upd_ne n3]
    exact h.du
end
theorem same_keep {H0 H H' : Hp} {p : Addr} (s : Same H0 H) (np : H0 p = none) (k : KeepP p H H') : Same H0 H' := fun b o e => k b o (ne_of_none e np) (s b o e)
/-- no number of places, whatever becomes of the pool -/
def OddV (K : PySem.W.Frag) (p : Addr) (H : Hp) (x : V) : Prop := ∀ H', KeepP p H H' → NotP K H' x ∧ ∃ d, Dp K H' x d ∧ SeqAt.shaped (.list [.str "places", d]) = true
def WrongV (K : PySem.W.Frag) (CB p : Addr) (H : Hp) (x : V) : Prop := ∀ H', KeepP p H H' → NotB K CB H' x
theorem OddV.keep {K : PySem.W.Frag} {p : Addr} {H H' : Hp} {x : V} (h : OddV K p H x) (k : KeepP p H H') : OddV K p H' x := fun H2 k2 => h H2 (k.trans k2)
theorem WrongV.keep {K : PySem.W.Frag} {CB p : Addr} {H H' : Hp} {x : V} (h : WrongV K CB p H x) (k : KeepP p H H') : WrongV K CB p H' x := fun H2 k2 => h H2 (k.trans k2)
/-- what kinds of values are no books -/
structure KB (K : PySem.W.Frag) (CB : Addr) : Prop where
  non : PySem.W.kitOne K (.type "NoneType") (.ref CB) = some false
  bl : PySem.W.kitOne K (.type "bool") (.ref CB) = some false
  int : PySem.W.kitOne K (.type "int") (.ref CB) = some false
  str : PySem.W.kitOne K (.type "str") (.ref CB) = some false
  lst : PySem.W.kitOne K (.type "list") (.ref CB) = some false
  tup : PySem.W.kitOne K (.type "tuple") (.ref CB) = some false
def oddL (l1 l : Addr) : List V := [.non, .bl true, .int 0, .int 4, .int (-1), .str "2", .ref l1, .int (10 ^ 20), .str "early", .ref l]
theorem words_lay {wd : Wds} (h : wd.Ok) : PyData.canLayAll0 (wd.list.map PyData.str) = true := lay_strs _ fun w hw => by
  obtain ⟨h1, h2, h3, h4, h5⟩ := h
  unfold Wds.list at hw
  simp only [List.mem_cons, List.not_mem_nil, or_false] at hw
  rcases hw with rfl | rfl | rfl | rfl | rfl
  · exact word_ok (.inl h1)
  · exact word_ok (.inr (.inl h2))
  · exact word_ok (.inr (.inr (.inl h3)))
  · exact word_ok (.inr (.inr (.inr (.inl h4))))
  · exact word_ok (.inr (.inr (.inr (.inr (.inl h5)))))
theorem odd_all {K : PySem.W.Frag} {p l1 l : Addr} {H : Hp} {wd : Wds} (h1 : H l1 = some (.lst [.int 1])) (n1 : l1 ≠ p) (hl : H l = some (.lst (wd.list.map V.str))) (nl : l ≠ p) (hok : wd.Ok) : ∀ x ∈ oddL l1 l, OddV K p H x := by
  intro x hx
  unfold oddL at hx
  simp only [List.mem_cons, List.not_mem_nil, or_false] at hx
  have badL : ∀ {H' : Hp} {a : Addr} {xs : List V}, H' a = some (.lst xs) → BadIx K H' (.ref a) := fun e => ⟨"list", .base (.lst e), .inr ⟨by decide +kernel, by decide +kernel⟩⟩
  rcases hx with rfl | rfl | rfl | rfl | rfl | rfl | rfl | rfl | rfl | rfl
  · exact fun H' _ => ⟨.inr ⟨"NoneType", .base .non, .inr ⟨by decide +kernel, by decide +kernel⟩⟩, _, .non, by decide +kernel⟩
  · exact fun H' _ => ⟨.inr ⟨"bool", .base (.bl true), .inl (by decide +kernel)⟩, _, .bl true, by decide +kernel⟩
  · exact fun H' _ => ⟨.inl ⟨0, rfl, by omega⟩, _, .int 0, by decide +kernel⟩
  · exact fun H' _ => ⟨.inl ⟨4, rfl, by omega⟩, _, .int 4, by decide +kernel⟩
  · exact fun H' _ => ⟨.inl ⟨-1, rfl, by omega⟩, _, .int (-1), by decide +kernel⟩
  · exact fun H' _ => ⟨.inr ⟨"str", .base (.str "2"), .inr ⟨by decide +kernel, by decide +kernel⟩⟩, _, .str "2", by decide +kernel⟩
  · exact fun H' k => ⟨.inr (badL (k _ _ n1 h1)), _, .lst (SqL.of (k _ _ n1 h1)) (.cons (.int 1) .nil), by decide +kernel⟩
  · exact fun H' _ => ⟨.inl ⟨10 ^ 20, rfl, by decide⟩, _, .int (10 ^ 20), by decide +kernel⟩
  · exact fun H' _ => ⟨.inr ⟨"str", .base (.str "early"), .inr ⟨by decide +kernel, by decide +kernel⟩⟩, _, .str "early", by decide +kernel⟩
  · refine fun H' k => ⟨.inr (badL (k _ _ nl hl)), _, .lst (SqL.of (k _ _ nl hl)) (dp_strs _), ?_⟩
    unfold SeqAt.shaped
    simp only [PyData.canLay0, PyData.canLayAll0, PyData.depth, PyData.depthAll, dep_strs, words_lay hok]
    decide +kernel
def wrongL (l t : Addr) : List V := [.non, .bl true, .str "early", .ref l, .int 3, .ref t]
theorem wrong_all {K : PySem.W.Frag} {CB p t l : Addr} {H : Hp} {xs ys : List V} (k : KB K CB) (ht : H t = some (.tup xs)) (n1 : t ≠ p) (hl : H l = some (.lst ys)) (nl : l ≠ p) : ∀ x ∈ wrongL l t, WrongV K CB p H x := by
  intro x hx
  unfold wrongL at hx
  simp only [List.mem_cons, List.not_mem_nil, or_false] at hx
  rcases hx with rfl | rfl | rfl | rfl | rfl | rfl
  · exact fun H' _ => ⟨_, .base .non, k.non⟩
  · exact fun H' _ => ⟨_, .base (.bl true), k.bl⟩
  · exact fun H' _ => ⟨_, .base (.str "early"), k.str⟩
  · exact fun H' z => ⟨_, .base (.lst (z _ _ nl hl)), k.lst⟩
  · exact fun H' _ => ⟨_, .base (.int 3), k.int⟩
  · exact fun H' z => ⟨_, .base (.tup (z _ _ n1 ht)), k.tup⟩
def optD : Option Str → PyData
  | some z => .str z
  | none => .none
theorem dp_opt {K : PySem.W.Frag} {H : Hp} : ∀ o : Option Str, Dp K H (optV o) (optD o)
  | some z => .str z
  | none => .non
theorem shaped_pair {z : Str} {d : PyData} (hz : PyData.canLay0 (.str z) = true) (h : PyData.canLay0 d = true) (hd : PyData.depth d ≤ 60) : SeqAt.shaped (.list [.str z, d]) = true := by
  unfold SeqAt.shaped
  rw [PyData.canLay0, PyData.canLayAll0, PyData.canLayAll0, PyData.canLayAll0, hz, h, PyData.depth, PyData.depthAll, PyData.depthAll, PyData.depthAll, PyData.depth]
  rw [Bool.and_true, Bool.and_self, Bool.true_and]
  exact decide_eq_true (by omega)
theorem reason_lay (wd : Wds) : SeqAt.shaped (.list [.str "reason", optD (reasonW wd)]) = true := by
  unfold reasonW
  split
  · decide +kernel
  · split
    · decide +kernel
    · split
      · decide +kernel
      · split <;> decide +kernel
theorem ne_pool {H : Hp} {p q : Addr} (h : Pool H p) (n : H q = none) : q ≠ p := by
  obtain ⟨_, _, e, _⟩ := h
  exact (ne_of_none e n).symm
end K1
namespace K1
open PySem PySem.Spec PyProof.Rows L2 Bk
theorem scNumOf : FnScope ["pairs", "row", "one", "other", "index", "number", "pair", "fine"] ["pairs", "row"] (defScope sNumOf) := ⟨rfl, rfl, rfl, by decide +kernel, rfl, by decide +kernel, by decide +kernel⟩
/-- none, a text or a list -/
def NoTu (H : Hp) (v : V) : Prop := v = .non ∨ (∃ z, v = .str z) ∨ ∃ a xs, v = .ref a ∧ H a = some (.lst xs)
theorem NoTu.noT {K : PySem.W.Frag} {H : Hp} {v : V} (h : NoTu H v) : NoT K H v := by
  rcases h with rfl | ⟨z, rfl⟩ | ⟨a, xs, rfl, e⟩
  · exact ⟨_, .base .non, by decide +kernel⟩
  · exact ⟨_, .base (.str z), by decide +kernel⟩
  · exact ⟨_, .base (.lst e), by decide +kernel⟩
theorem NoTu.same {H H' : Hp} {v : V} (h : NoTu H v) (s : Same H H') : NoTu H' v := by
  rcases h with h | h | ⟨a, xs, e, h⟩
  · exact .inl h
  · exact .inr (.inl h)
  · exact .inr (.inr ⟨a, xs, e, s _ _ h⟩)
theorem NoTu.keep {p : Addr} {H H' : Hp} {v : V} (h : NoTu H v) (k : KeepP p H H') (hp : Pool H' p) : NoTu H' v := by
  rcases h with h | h | ⟨a, xs, e, h⟩
  · exact .inl h
  · exact .inr (.inl h)
  · by_cases z : a = p
    · obtain ⟨_, _, e2, _⟩ := hp
      exact .inr (.inr ⟨a, _, e, by rw [z]; exact e2⟩)
    · exact .inr (.inr ⟨a, xs, e, k _ _ z h⟩)
theorem NoTu.lst {H : Hp} {v : V} {D : Addr} {xs ys : List V} (h : NoTu H v) (_ : H D = some (.lst xs)) : NoTu (upd H D (.lst ys)) v := by
  rcases h with h | h | ⟨a, zs, e, h⟩
  · exact .inl h
  · exact .inr (.inl h)
  · by_cases z : a = D
    · exact .inr (.inr ⟨a, ys, e, by rw [z, upd_same]⟩)
    · exact .inr (.inr ⟨a, zs, e, by rw [upd_ne z]; exact h⟩)
def ShAt (K : PySem.W.Frag) (H : Hp) (v : V) : Option (List Str) → Prop
  | some r => ∃ q, v = .ref q ∧ TQ K H q r ∧ r.length ≤ 100 ∧ ∀ w ∈ r, w ∈ shW
  | none => NoTu H v
def IxAt (v : V) : Option Int → Prop
  | some i => v = .int i
  | none => ∃ b, v = .bl b
def RowAt (K : PySem.W.Frag) (H : Hp) (v : V) : RV → Prop
  | .tri a b i => ∃ q x y z, v = .ref q ∧ SqT K H q [x, y, z] ∧ ShAt K H x a ∧ ShAt K H y b ∧ IxAt z i
  | .no => NoTu H v ∨ ∃ q xs, v = .ref q ∧ SqT K H q xs ∧ xs.length ≠ 3
theorem ShAt.same {K : PySem.W.Frag} {H H' : Hp} {v : V} : ∀ {a : Option (List Str)}, ShAt K H v a → Same H H' → ShAt K H' v a
  | some _, h, s => let ⟨q, e, t, l, w⟩ := h; ⟨q, e, sqT_same t s, l, w⟩
  | none, h, s => NoTu.same h s
theorem ShAt.keep {K : PySem.W.Frag} {p : Addr} {H H' : Hp} {v : V} : ∀ {a : Option (List Str)}, ShAt K H v a → KeepP p H H' → Pool H p → Pool H' p → ShAt K H' v a
  | some _, h, k, hp, _ => let ⟨q, e, t, l, w⟩ := h; ⟨q, e, sqT_keep k hp t, l, w⟩
  | none, h, k, _, hp' => NoTu.keep h k hp'
theorem ShAt.lst {K : PySem.W.Frag} {H : Hp} {v : V} {D : Addr} {xs ys : List V} : ∀ {a : Option (List Str)}, ShAt K H v a → H D = some (.lst xs) → ShAt K (upd H D (.lst ys)) v a
  | some _, h, e => let ⟨q, e', t, l, w⟩ := h; ⟨q, e', sqT_lst t e, l, w⟩
  | none, h, e => NoTu.lst h e
theorem RowAt.same {K : PySem.W.Frag} {H H' : Hp} {v : V} : ∀ {r : RV}, RowAt K H v r → Same H H' → RowAt K H' v r
  | .tri _ _ _, h, s => let ⟨q, x, y, z, e, t, a, b, c⟩ := h; ⟨q, x, y, z, e, sqT_same t s, a.same s, b.same s, c⟩
  | .no, h, s => h.elim (fun h => .inl (h.same s)) fun ⟨q, xs, e, t, l⟩ => .inr ⟨q, xs, e, sqT_same t s, l⟩
theorem RowAt.keep {K : PySem.W.Frag} {p : Addr} {H H' : Hp} {v : V} : ∀ {r : RV}, RowAt K H v r → KeepP p H H' → Pool H p → Pool H' p → RowAt K H' v r
  | .tri _ _ _, h, k, hp, hp' => let ⟨q, x, y, z, e, t, a, b, c⟩ := h; ⟨q, x, y, z, e, sqT_keep k hp t, a.keep k hp hp', b.keep k hp hp', c⟩
  | .no, h, k, hp, hp' => h.elim (fun h => .inl (h.keep k hp')) fun ⟨q, xs, e, t, l⟩ => .inr ⟨q, xs, e, sqT_keep k hp t, l⟩
theorem RowAt.lst {K : PySem.W.Frag} {H : Hp} {v : V} {D : Addr} {xs ys : List V} : ∀ {r : RV}, RowAt K H v r → H D = some (.lst xs) → RowAt K (upd H D (.lst ys)) v r
  | .tri _ _ _, h, e' => let ⟨q, x, y, z, e, t, a, b, c⟩ := h; ⟨q, x, y, z, e, sqT_lst t e', a.lst e', b.lst e', c⟩
  | .no, h, e' => h.elim (fun h => .inl (h.lst e')) fun ⟨q, xs, e, t, l⟩ => .inr ⟨q, xs, e, sqT_lst t e', l⟩
/-- the pairs that are looked through -/
def PrsOk (ps : List (List Str × List Str)) : Prop := ∀ p ∈ ps, p.1.length = p.2.length ∧ p.1.length ≤ 3 ∧ (∀ w ∈ p.1, w ∈ shW) ∧ ∀ w ∈ p.2, w ∈ shW
theorem prs_ok (o : Str) {n : Nat} (h : n ≤ 3) : PrsOk (pairsL o n) := by
  intro p hp
  obtain ⟨k, hk, h1, h2⟩ := pairs_in hp
  have a := shapes_mem.mp h1
  have b := shapes_mem.mp h2
  exact ⟨by omega, by omega, a.1.2, b.1.2⟩
def optN : Option Nat → V
  | some k => .int (k : Int)
  | none => .non
def spNum (K : PySem.W.Frag) : Sp := fun vs H Q _ => ∃ (l : Addr) (qs : List Addr) (ps : List (List Str × List Str)) (v : V) (r : RV), vs = [.ref l, v] ∧ H l = some (.lst (qs.map V.ref)) ∧ Lst2 (PairAt K H) qs ps ∧ PrsOk ps ∧ ps.length ≤ 3000 ∧ RowAt K H v r ∧ ∀ H', Same H H' → Q (optN (numP ps r)) H'
theorem eqv_all : ∀ a b : List Str, PyData.eqvAll (a.map PyData.str) (b.map PyData.str) = decide (a = b)
  | [], [] => by rw [List.map_nil, PyData.eqvAll]; rfl
  | [], y :: b => by
    rw [List.map_nil, List.map_cons, PyData.eqvAll, decide_eq_false (by simp)]
    all_goals simp
  | x :: a, [] => by
    rw [List.map_nil, List.map_cons, PyData.eqvAll, decide_eq_false (by simp)]
    all_goals simp
  | x :: a, y :: b => by
    rw [List.map_cons, List.map_cons, PyData.eqvAll, eqv_s, eqv_all a b, ← Bool.decide_and, decide_eq_decide, List.cons.injEq]
theorem eqv_row (a b : List Str) : PyData.eqv (rowD a) (rowD b) = decide (a = b) := by
  unfold rowD
  rw [PyData.eqv, eqv_all]
def pairD (p : List Str × List Str) : PyData := .tuple [rowD p.1, rowD p.2]
theorem eqv_pair (p q : List Str × List Str) : PyData.eqv (pairD p) (pairD q) = decide (p = q) := by
  unfold pairD
  rw [PyData.eqv, PyData.eqvAll, PyData.eqvAll, PyData.eqvAll, eqv_row, eqv_row, Bool.and_true, ← Bool.decide_and, decide_eq_decide]
  exact ⟨fun h => Prod.ext h.1 h.2, fun h => by rw [h]; exact ⟨rfl, rfl⟩⟩
theorem dp_row {K : PySem.W.Frag} {H : Hp} {q : Addr} {r : List Str} (h : TQ K H q r) : Dp K H (.ref q) (rowD r) := .tup h (dp_strs r)
theorem dep_row (r : List Str) : PyData.depth (rowD r) = 1 := by
  unfold rowD
  rw [PyData.depth, dep_strs]
theorem can_row {r : List Str} (h : ∀ w ∈ r, w ∈ shW) : PyData.canLay0 (rowD r) = true := by
  unfold rowD
  rw [PyData.canLay0]
  exact lay_strs r fun w hw => word_ok (.inr (.inr (.inr (.inr (.inr (h w hw))))))
theorem lay_pair {p : List Str × List Str} (h1 : ∀ w ∈ p.1, w ∈ shW) (h2 : ∀ w ∈ p.2, w ∈ shW) : SeqAt.shaped (pairD p) = true := by
  unfold SeqAt.shaped pairD
  rw [PyData.canLay0, PyData.canLayAll0, PyData.canLayAll0, PyData.canLayAll0, can_row h1, can_row h2, PyData.depth, PyData.depthAll, PyData.depthAll, PyData.depthAll, dep_row, dep_row]
  decide +kernel
theorem BadIx.bl {K : PySem.W.Frag} {H : Hp} (b : Bool) : BadIx K H (.bl b) := ⟨"bool", .base (.bl b), .inl (by decide +kernel)⟩
section
variable {P : Program} {w : World} {K : PySem.W.Frag} {mg : Str → Option Value} {base : Heap} {CB CE CP : Addr}
theorem ok_num {f fS fI fA : Addr} {fd fdS fdI fdA : FuncData} (F : Fun K "_number_of" "_number_of" sNumOf f fd) (T : Tx mg) (mE : mg "enumerate" = none) (mS : mg "_is_shape" = some (.ref fS)) (kS : PySem.W.keepIn K (.ref fS) = true) (bS : Binds K fdS ["value"] []) (GS : FnOk P w K mg base CX0 1 fS fdS ["value"] (spIsShape K))
    (mI : mg "is_index" = some (.ref fI)) (kI : PySem.W.keepIn K (.ref fI) = true) (bI : Binds K fdI ["value", "many"] []) (GI : FnOk P w K mg base CX0 1 fI fdI ["value", "many"] (spIndex K))
    (mA : mg "_are_apart_at" = some (.ref fA)) (kA : PySem.W.keepIn K (.ref fA) = true) (bA : Binds K fdA ["one", "other", "index"] []) (GA : FnOk P w K mg base CX0 1 fA fdA ["one", "other", "index"] (spApart K)) :
    FnOk P w K mg base CX0 2 f fd ["pairs", "row"] (spNum K) := by
  refine F.ok scNumOf (fun vs H Q E h => ?_) (fun cdv A outer s H vs Q E hr h => ?_)
  · obtain ⟨l, qs, ps, v, r, rfl, _⟩ := h
    rfl
  · obtain ⟨l, qs, ps, v, r, rfl, hl, hP, ho, hps, hv, q⟩ := h
    refine ⟨_, pss_cons (ps_if (PW.pt (pw_or (pt_not (pt_val (pe_callB call_isi (by rfl) T.isi (by decide +kernel) (pa_cons (pv 1) (pa_cons (pe_bltn (v := .ty "tuple") (u := .type "tuple") (by rfl) T.tuple (by decide +kernel) rfl) pa_nil)))))
        (pw_or (pt_cmpR op_ne (pe_callB call_len_seq (by rfl) T.len PySem.boot_len (pa_cons (pv 1) pa_nil)) pe_int (nomark _))
        (pw_or (pt_not (pt_val (pe_call GS hr (by rfl) mS kS bS .nil pass0 (pa_cons (pe_ix ix_tup (pv 1) pe_int (fun _ _ => rfl)) pa_nil)))) (pw_or1 (pt_not (pt_val (pe_call GS hr (by rfl) mS kS bS .nil pass0 (pa_cons (pe_ix ix_tup (pv 1) pe_int (fun _ _ => rfl)) pa_nil))))))))) (pss_one (ps_ret pe_non)) pss_nil) <|
      pss_cons (ps_asg (pv 1) (pg_tup rfl (pgs_cons (pg_name (i := 2) scNumOf.nd rfl (Or.inl rfl)) (pgs_cons (pg_name (i := 3) scNumOf.nd rfl (Or.inl rfl)) (pgs_cons (pg_name (i := 4) scNumOf.nd rfl (Or.inl rfl)) pgs_nil))))) <|
      pss_cons (ps_for PassesOwn.never rfl (pi_enum (by rfl) mE (pa_cons (pv 0) pa_nil)) (pg_tup rfl (pgs_cons (pg_name (i := 5) scNumOf.nd rfl (Or.inl rfl)) (pgs_cons (pg_name (i := 6) scNumOf.nd rfl (Or.inl rfl)) pgs_nil)))
        (pss_one (ps_if (PW.pt (pw_or (pt_cmpR (op_eqD hr.units) (pv 6) (pe_tup (pa_cons (pv 2) (pa_cons (pv 3) pa_nil))) (nomark _)) (pw_or1 (pt_cmpR (op_eqD hr.units) (pv 6) (pe_tup (pa_cons (pv 3) (pa_cons (pv 2) pa_nil))) (nomark _)))))
          (pss_cons (ps_set (i := 7) scNumOf.nd rfl (Or.inl rfl) (pe_and (pe_call GI hr (by rfl) mI kI bI .nil pass0 (pa_cons (pv 4) (pa_cons (pe_callB call_len_seq (by rfl) T.len PySem.boot_len (pa_cons (pe_ix ix_tup (pv 6) pe_int (fun _ _ => rfl)) pa_nil)) pa_nil)))
              (pe_one (pe_call GA hr (by rfl) mA kA bA .nil pass0 (pa_cons (pe_ix ix_tup (pv 6) pe_int (fun _ _ => rfl)) (pa_cons (pe_ix ix_tup (pv 6) pe_int (fun _ _ => rfl)) (pa_cons (pv 4) pa_nil))))))) <|
          pss_one (ps_ret (pe_ifExp (pt_val (pv 7)) (pv 5) pe_non))) pss_nil))) <|
      pss_one (ps_ret pe_non), ?_⟩
    cases r with
    | no =>
      have q0 := q H (Same.refl H)
      rcases hv with hv | ⟨p, xs, rfl, hp, hne⟩
      · obtain ⟨t, ty, kt⟩ := hv.noT (K := K)
        exact ⟨_, rfl, _, _, _, _, false, rfl, .ty "tuple", ty, kit_ty kt, false, rfl, iteT q0⟩
      · refine ⟨_, rfl, _, _, _, _, true, rfl, .ty "tuple", sqT_ty hp, kit_ty (by decide +kernel), true, rfl, iteF ?_⟩
        refine ⟨_, rfl, p, _, rfl, .inr hp, rfl, _, rfl, ?_⟩
        rw [decide_eq_false (show ¬ (V.int ((xs.length : Nat) : Int) = V.int 3) from fun e => by injection e with e; omega)]
        exact iteT q0
    | tri a b i =>
      obtain ⟨p, x, y, z, rfl, hp, hx, hy, hz⟩ := hv
      refine ⟨_, rfl, _, _, _, _, true, rfl, .ty "tuple", sqT_ty hp, kit_ty (by decide +kernel), true, rfl, iteF ?_⟩
      refine ⟨_, rfl, p, _, rfl, .inr hp, rfl, _, rfl, ?_⟩
      refine iteF ?_
      refine ⟨_, rfl, p, _, 0, _, rfl, rfl, hp, atI_nat (j := 0) rfl, _, rfl, ?_⟩
      cases a with
      | none =>
        have q0 := q H (Same.refl H)
        exact .inr ⟨hx.noT, _, rfl, iteT q0⟩
      | some a =>
        obtain ⟨xa, rfl, ha, la, wa⟩ := hx
        refine .inl ⟨xa, a, rfl, ha, la, fun H1 s1 => ⟨_, rfl, iteF ?_⟩⟩
        refine ⟨_, rfl, p, _, 1, _, rfl, rfl, sqT_same hp s1, atI_nat (j := 1) rfl, _, rfl, ?_⟩
        cases b with
        | none => exact .inr ⟨(hy.same s1).noT, _, rfl, iteT (q _ s1)⟩
        | some b =>
          obtain ⟨xb, rfl, hb, lb, wb⟩ := hy
          refine .inl ⟨xb, b, rfl, sqT_same hb s1, lb, fun H2 s2 => ⟨_, rfl, iteF ?_⟩⟩
          have s02 := s1.trans s2
          refine ⟨_, rfl, p, _, rfl, sqT_same hp s02, rfl, _, _, rfl, _, _, rfl, _, _, rfl, rfl, ?_⟩
          refine ⟨_, rfl, l, _, rfl, SqL.of (s02 _ _ hl), ?_⟩
          refine for_it (walk_enum (K := K) (a := l) (xs := qs.map V.ref)) (fun j σ H' => ∃ v5 v6, σ = [some (.ref l), some (.ref p), some (.ref xa), some (.ref xb), some z, v5, v6, none] ∧ Same H H' ∧ ∀ m, m < j → ∀ pr, ps[m]? = some pr → same2 a b pr = false) ⟨none, none, rfl, s02, fun m hm => absurd hm (Nat.not_lt_zero m)⟩ (fun j σ H' _ h => by obtain ⟨_, _, _, h, _⟩ := h; exact SqL.of (h _ _ hl)) ?_ ?_
          · rintro j x σ H3 H4 hj ⟨v5, v6, rfl, s3, hno⟩ ⟨t, y, zz, rfl, nt, rfl, hy, hzz⟩
            cases hy
            obtain ⟨q0, hq0, rfl⟩ := ref_at hzz
            obtain ⟨pr, hpr, hAt⟩ := hP.2 j q0 hq0
            have st := same_new (o := .tup [.int (j : Nat), .ref q0]) nt
            have hpo := ho pr (List.mem_of_getElem? hpr)
            refine ⟨t, _, rfl, SqT.of upd_same, rfl, _, _, rfl, _, _, rfl, rfl, ?_⟩
            have s4 := s3.trans st
            have dpq : ∀ {H5 : Hp}, Same H H5 → Dp K H5 (.ref q0) (pairD pr) := fun s5 => by
              obtain ⟨u1, u2, h1, h2, h3⟩ := hAt.same s5
              exact .tup h1 (.cons (dp_row h2) (.cons (dp_row h3) .nil))
            have dab : ∀ {H5 : Hp} {p2 : Addr}, Same H H5 → H5 p2 = some (.tup [.ref xa, .ref xb]) → Dp K H5 (.ref p2) (pairD (a, b)) := fun s5 e => .tup (SqT.of e) (.cons (dp_row (sqT_same ha s5)) (.cons (dp_row (sqT_same hb s5)) .nil))
            have dba : ∀ {H5 : Hp} {p2 : Addr}, Same H H5 → H5 p2 = some (.tup [.ref xb, .ref xa]) → Dp K H5 (.ref p2) (pairD (b, a)) := fun s5 e => .tup (SqT.of e) (.cons (dp_row (sqT_same hb s5)) (.cons (dp_row (sqT_same ha s5)) .nil))
            have lp := lay_pair hpo.2.2.1 hpo.2.2.2
            have lab : SeqAt.shaped (pairD (a, b)) = true := lay_pair wa wb
            have lba : SeqAt.shaped (pairD (b, a)) = true := lay_pair wb wa
            refine ⟨_, rfl, _, rfl, _, rfl, by show 2 ≤ sizeLine; decide, fun p2 n2 => ?_⟩
            have s5 := s4.trans (same_new (o := .tup [.ref xa, .ref xb]) n2)
            refine ⟨pairD pr, pairD (a, b), dpq s5, dab s5 upd_same, lp, lab, _, rfl, ?_⟩
            rw [eqv_pair]
            have hm : same2 a b pr = true → ∀ k, numP ps (.tri (some a) (some b) (some k)) = if ixOk pr.1 pr.2 k = true then some j else none := by
              intro hs k
              show numQ ps a b k = _
              unfold numQ
              have e1 : ps.findIdx? (same2 a b) = some j := by
                rw [List.findIdx?_eq_some_iff_getElem]
                obtain ⟨lj, e2⟩ := List.getElem?_eq_some_iff.mp hpr
                refine ⟨lj, by rw [e2]; exact hs, fun m hmj => ?_⟩
                rw [hno m hmj _ (List.getElem?_eq_getElem (by omega))]
                exact Bool.false_ne_true
              rw [e1]
              show numK ps k j = _
              unfold numK
              rw [hpr]
            by_cases hs : same2 a b pr = true
            · have hm := hm hs
              rcases same2_iff.mp hs with e | e
              case' inl =>
                rw [decide_eq_true e]
                refine iteT ?_
                revert s5
                generalize upd (upd H3 t (.tup [.int (j : Nat), .ref q0])) p2 (.tup [.ref xa, .ref xb]) = H6
                intro s5
              case' inr =>
                refine ite2 (fun c => ?_) (fun c => ?_)
                case' refine_1 =>
                  revert s5
                  generalize upd (upd H3 t (.tup [.int (j : Nat), .ref q0])) p2 (.tup [.ref xa, .ref xb]) = H6
                  intro s5
                case' refine_2 =>
                  refine ⟨_, rfl, _, rfl, _, rfl, by show 2 ≤ sizeLine; decide, fun p3 n3 => ?_⟩
                  have s6 := s5.trans (same_new (o := .tup [.ref xb, .ref xa]) n3)
                  refine ⟨pairD pr, pairD (b, a), dpq s6, dba s6 upd_same, lp, lba, _, rfl, ?_⟩
                  rw [eqv_pair, decide_eq_true e]
                  refine iteT ?_
                  revert s6
                  generalize upd (upd (upd H3 t (.tup [.int (j : Nat), .ref q0])) p2 (.tup [.ref xa, .ref xb])) p3 (.tup [.ref xb, .ref xa]) = H6
                  clear s5
                  intro s5
              all_goals
                have hA5 := hAt.same s5
                obtain ⟨u1, u2, h1, h2, h3⟩ := hA5
                refine ⟨_, rfl, _, rfl, q0, _, 0, _, rfl, rfl, h1, atI_nat (j := 0) rfl, u1, _, rfl, .inr h2, z, _, rfl, ?_⟩
                cases i with
                | none =>
                  obtain ⟨b0, rfl⟩ := hz
                  refine .inr ⟨BadIx.bl b0, _, rfl, iteF ⟨_, rfl, _, rfl, iteF ?_⟩⟩
                  exact q _ s5
                | some i =>
                  obtain rfl : z = .int i := hz
                  refine .inl ⟨i, rfl, ?_⟩
                  rw [List.length_map]
                  have hq : numP ps (.tri (some a) (some b) (some i)) = if ixOk pr.1 pr.2 i = true then some j else none := hm i
                  unfold ixOk at hq
                  refine ⟨_, rfl, ?_⟩
                  refine ite2 (fun c => ?_) (fun c => ?_)
                  · rw [c, Bool.true_and] at hq
                    rw [Bool.and_eq_true, decide_eq_true_iff, decide_eq_true_iff] at c
                    obtain ⟨k, rfl⟩ := Int.eq_ofNat_of_zero_le c.1
                    have hk : k < pr.1.length := by omega
                    rw [Int.toNat_natCast] at hq
                    refine ⟨_, rfl, q0, _, 0, _, rfl, rfl, h1, atI_nat (j := 0) rfl, _, rfl, q0, _, 1, _, rfl, rfl, h1, atI_nat (j := 1) rfl, _, rfl, u1, u2, pr.1, pr.2, k, pr.1[k], pr.2[k], rfl, h2, h3, List.getElem?_eq_getElem hk, List.getElem?_eq_getElem (by omega), hpo.2.2.1 _ (List.getElem_mem _), hpo.2.2.2 _ (List.getElem_mem _), fun H7 s7 => ⟨_, rfl, _, rfl, ?_⟩⟩
                    have q0 := q H7 (s5.trans s7)
                    rw [hq] at q0
                    refine ite2 (fun c2 => ?_) (fun c2 => ?_)
                    · rw [if_pos c2] at q0
                      exact ⟨_, rfl, q0⟩
                    · rw [if_neg c2] at q0
                      exact q0
                  · rw [Bool.not_eq_true] at c
                    rw [c, Bool.false_and, if_neg Bool.false_ne_true] at hq
                    have q0 := q _ s5
                    rw [hq] at q0
                    exact ⟨_, rfl, _, rfl, iteF q0⟩
            · have hs' : same2 a b pr = false := by simpa using hs
              have n1 : ¬ pr = (a, b) := fun e => hs (same2_iff.mpr (.inl e))
              have n2' : ¬ pr = (b, a) := fun e => hs (same2_iff.mpr (.inr e))
              rw [decide_eq_false n1]
              refine iteF ⟨_, rfl, _, rfl, _, rfl, by show 2 ≤ sizeLine; decide, fun p3 n3 => ?_⟩
              have s6 := s5.trans (same_new (o := .tup [.ref xb, .ref xa]) n3)
              refine ⟨pairD pr, pairD (b, a), dpq s6, dba s6 upd_same, lp, lba, _, rfl, ?_⟩
              rw [eqv_pair, decide_eq_false n2']
              refine iteF ⟨_, _, rfl, s6, fun m hm' pr' hpr' => ?_⟩
              by_cases e : m = j
              · rw [e, hpr] at hpr'
                cases hpr'
                exact hs'
              · exact hno m (by omega) pr' hpr'
          · rintro σ H3 ⟨v5, v6, rfl, s3, hno⟩
            rw [List.length_map, hP.1] at hno
            have e1 : ps.findIdx? (same2 a b) = none := by
              rw [List.findIdx?_eq_none_iff]
              intro pr hpr
              obtain ⟨m, hm⟩ := List.mem_iff_getElem?.mp hpr
              exact hno m (List.getElem?_eq_some_iff.mp hm).1 pr hm
            have e2 : numP ps (.tri (some a) (some b) i) = none := by
              cases i with
              | none => rfl
              | some i =>
                show numQ ps a b i = none
                unfold numQ
                rw [e1]
            have q0 := q H3 s3
            rw [e2] at q0
            exact q0
end
end K1
namespace K1
open PySem PySem.Spec PyProof.Rows L2 Bk
theorem scSound : FnScope ["book", "places", "value", "reason", "rows", "wanted", "pairs", "told", "row", "number"] ["book", "places", "value"] (defScope sSound) := ⟨rfl, rfl, rfl, by decide +kernel, rfl, by decide +kernel, by decide +kernel⟩
/-- what is handed in as a paper: no: no tuple of two; the reason (none: no text), the rows (none: no list) -/
inductive VV
  | no
  | two (z : Option Str) (rs : Option (List RV))
def ValAt (K : PySem.W.Frag) (H : Hp) (v : V) : VV → Prop
  | .no => NoTu H v ∨ ∃ q xs, v = .ref q ∧ SqT K H q xs ∧ xs.length ≠ 2
  | .two z rs => ∃ q x y, v = .ref q ∧ SqT K H q [x, y] ∧ (match z with | some s => x = .str s | none => x = .non ∨ ∃ i, x = .int i) ∧
      (match rs with | some rs => ∃ l vs, y = .ref l ∧ H l = some (.lst vs) ∧ vs.length ≤ 3000 ∧ Lst2 (RowAt K H) vs rs ∧ ∀ r ∈ rs, shOk r | none => y = .non ∨ ∃ q xs, y = .ref q ∧ SqT K H q xs)
theorem ValAt.same {K : PySem.W.Frag} {H H' : Hp} {v : V} : ∀ {z : VV}, ValAt K H v z → Same H H' → ValAt K H' v z
  | .no, h, s => h.elim (fun h => .inl (h.same s)) fun ⟨q, xs, e, t, l⟩ => .inr ⟨q, xs, e, sqT_same t s, l⟩
  | .two _ (some _), ⟨q, x, y, e, t, h1, l, vs, e2, hl, n, hv, ho⟩, s => ⟨q, x, y, e, sqT_same t s, h1, l, vs, e2, s _ _ hl, n, hv.imp fun _ _ h => h.same s, ho⟩
  | .two _ none, ⟨q, x, y, e, t, h1, h2⟩, s => ⟨q, x, y, e, sqT_same t s, h1, h2.elim .inl fun ⟨q, xs, e, t⟩ => .inr ⟨q, xs, e, sqT_same t s⟩⟩
def soundV (wd : Wds) (n : Nat) : VV → Bool
  | .two (some z) (some rs) => decide (reasonW wd = some z) && soundP wd.o n rs
  | _ => false
def toldK (ks : List Nat) : List (Key × V) := ks.map fun (k : Nat) => (Sum.inl (k : Int), V.bl true)
theorem told_put (ks : List Nat) (k : Nat) : putK (toldK ks) (.inl (k : Int)) (.bl true) = toldK (toldA ks k) := by
  have e : ((toldK ks).any fun kv => decide (kv.1 = (Sum.inl (k : Int) : Key))) = decide (k ∈ ks) := by
    unfold toldK
    rw [List.any_map, Bool.eq_iff_iff, List.any_eq_true, decide_eq_true_iff]
    constructor
    · rintro ⟨j, hj, h⟩
      have h : (Sum.inl (j : Int) : Key) = .inl (k : Int) := of_decide_eq_true h
      have : j = k := by
        injection h with h
        omega
      exact this ▸ hj
    · intro h
      exact ⟨k, h, decide_eq_true rfl⟩
  unfold putK toldA
  rw [e]
  by_cases h : k ∈ ks
  · rw [if_pos (decide_eq_true h), if_pos h]
    unfold toldK
    rw [List.map_map]
    refine List.map_congr_left fun j _ => ?_
    show (if (Sum.inl (j : Int) : Key) = .inl (k : Int) then ((Sum.inl (j : Int) : Key), V.bl true) else (Sum.inl (j : Int), V.bl true)) = _
    split <;> rfl
  · rw [if_neg (by simpa using h), if_neg h]
    unfold toldK
    rw [List.map_append]
    rfl
theorem sqT_dK {K : PySem.W.Frag} {H : Hp} {q D : Addr} {xs : List V} {ys zs : List (Key × V)} (h : SqT K H q xs) (hD : H D = some (.dK ys)) : SqT K (upd H D (.dK zs)) q xs := by
  rcases h with (h | ⟨o, h⟩) | h
  · refine .inl (.inl ?_)
    rw [upd_ne (show q ≠ D from fun e => by rw [e, hD] at h; cases h)]
    exact h
  · refine .inl (.inr ⟨o, ?_⟩)
    rw [upd_ne (show q ≠ D from fun e => by rw [e, hD] at h; cases h)]
    exact h
  · exact .inr h
theorem PairAt.dK {K : PySem.W.Frag} {H : Hp} {q D : Addr} {p : List Str × List Str} {xs ys : List (Key × V)} (h : PairAt K H q p) (e : H D = some (.dK xs)) : PairAt K (upd H D (.dK ys)) q p := let ⟨a, b, x, y, z⟩ := h; ⟨a, b, sqT_dK x e, sqT_dK y e, sqT_dK z e⟩
def spSound (K : PySem.W.Frag) (CB : Addr) : Sp := fun vs H Q _ => ∃ (b : Addr) (wd : Wds) (n : Nat) (v : V) (z : VV), vs = [.ref b, .int (n : Int), v] ∧ BookAt CB H b wd ∧ wd.Ok ∧ 1 ≤ n ∧ n ≤ 3 ∧ ValAt K H v z ∧ ∀ H', Same H H' → Q (.bl (soundV wd n z)) H'
/-- what is told of the first rows -/
theorem toldL_app {ps : List (List Str × List Str)} : ∀ (rs : List RV) (ks : List Nat) (r : RV), toldL ps (rs ++ [r]) ks = (toldL ps rs ks).bind fun ks' => (numP ps r).map (toldA ks')
  | [], ks, r => by
    show (match numP ps r with | none => none | some k => some (toldA ks k)) = (some ks).bind fun ks' => (numP ps r).map (toldA ks')
    cases numP ps r <;> rfl
  | a :: rs, ks, r => by
    show (match numP ps a with | none => none | some k => toldL ps (rs ++ [r]) (toldA ks k)) = (match numP ps a with | none => none | some k => toldL ps rs (toldA ks k)).bind _
    cases numP ps a with
    | none => rfl
    | some k => exact toldL_app rs _ r
theorem toldA_len (ks : List Nat) (k : Nat) : (toldA ks k).length ≤ ks.length + 1 := by
  unfold toldA
  split
  · omega
  · rw [List.length_append]
    exact Nat.le_refl _
theorem toldL_len {ps : List (List Str × List Str)} : ∀ (rs : List RV) (ks ks' : List Nat), toldL ps rs ks = some ks' → ks'.length ≤ ks.length + rs.length
  | [], ks, ks', h => by
    cases h
    exact Nat.le_refl _
  | r :: rs, ks, ks', h => by
    have h : (match numP ps r with | none => none | some k => toldL ps rs (toldA ks k)) = some ks' := h
    cases e : numP ps r with
    | none =>
      rw [e] at h
      cases h
    | some k =>
      rw [e] at h
      have h1 := toldL_len rs _ _ h
      have h2 := toldA_len ks k
      rw [List.length_cons]
      omega
section
variable {P : Program} {w : World} {K : PySem.W.Frag} {mg : Str → Option Value} {base : Heap} {CB CE CP : Addr}
theorem ok_sound {f fB fP fR fA fN : Addr} {fd fdB fdP fdR fdA fdN : FuncData} (F : Fun K "is_sound_paper" "is_sound_paper" sSound f fd) (T : Tx mg)
    (mB : mg "check_book" = some (.ref fB)) (kB : PySem.W.keepIn K (.ref fB) = true) (bB : Binds K fdB ["book"] []) (GB : FnOk P w K mg base (CX P w) 3 fB fdB ["book"] (spChkB K CB CE))
    (mP : mg "check_places" = some (.ref fP)) (kP : PySem.W.keepIn K (.ref fP) = true) (bP : Binds K fdP ["places"] []) (GP : FnOk P w K mg base (CX P w) 3 fP fdP ["places"] (spChkP K CP))
    (mR : mg "reason_for" = some (.ref fR)) (kR : PySem.W.keepIn K (.ref fR) = true) (bR : Binds K fdR ["book"] []) (GR : FnOk P w K mg base CX0 3 fR fdR ["book"] (spReason CB))
    (mA : mg "_pairs" = some (.ref fA)) (kA : PySem.W.keepIn K (.ref fA) = true) (bA : Binds K fdA ["book", "places"] []) (GA : FnOk P w K mg base (CX P w) 5 fA fdA ["book", "places"] (spPairs K CB))
    (mN : mg "_number_of" = some (.ref fN)) (kN : PySem.W.keepIn K (.ref fN) = true) (bN : Binds K fdN ["pairs", "row"] []) (GN : FnOk P w K mg base CX0 2 fN fdN ["pairs", "row"] (spNum K)) :
    FnOk P w K mg base (CX P w) 6 f fd ["book", "places", "value"] (spSound K CB) := by
  refine F.okX scSound (fun vs H Q E h => ?_) (fun cdv A outer s H vs Q E hr h => ?_)
  · obtain ⟨b, wd, n, v, z, rfl, _⟩ := h
    rfl
  · obtain ⟨b, wd, n, v, z, rfl, hb, hok, n1, n3, hv, q⟩ := h
    have hu := hu_of (hr.mono (by decide) : Room 2 _)
    refine ⟨_, pss_cons (ps_expr (pe_call GB (hr.mono (by decide)) (by rfl) mB kB bB .nil (passes_call (takes_of rfl rfl rfl rfl) (fun _ _ _ _ z => z)) (pa_cons (pv 0) pa_nil))) <|
      pss_cons (ps_expr (pe_call GP (hr.mono (by decide)) (by rfl) mP kP bP .nil (passes_call (takes_of rfl rfl rfl rfl) (fun _ _ _ _ z => z)) (pa_cons (pv 1) pa_nil))) <|
      pss_cons (ps_if (PW.pt (pw_or (pt_not (pt_val (pe_callB call_isi (by rfl) T.isi (by decide +kernel) (pa_cons (pv 2) (pa_cons (pe_bltn (v := .ty "tuple") (u := .type "tuple") (by rfl) T.tuple (by decide +kernel) rfl) pa_nil)))))
        (pw_or1 (pt_cmpR op_ne (pe_callB call_len_seq (by rfl) T.len PySem.boot_len (pa_cons (pv 2) pa_nil)) pe_int (nomark _))))) (pss_one (ps_ret pe_bl)) pss_nil) <|
      pss_cons (ps_asg (pv 2) (pg_tup rfl (pgs_cons (pg_name (i := 3) scSound.nd rfl (Or.inl rfl)) (pgs_cons (pg_name (i := 4) scSound.nd rfl (Or.inl rfl)) pgs_nil)))) <|
      pss_cons (ps_set (i := 5) scSound.nd rfl (Or.inl rfl) (pe_call GR (hr.mono (by decide)) (by rfl) mR kR bR .nil pass0 (pa_cons (pv 0) pa_nil))) <|
      pss_cons (ps_if (PW.pt (pw_or (pt_cmpR op_isN (pv 5) pe_non (nomark _)) (pw_or (pt_not (pt_val (pe_callB call_isi (by rfl) T.isi (by decide +kernel) (pa_cons (pv 3) (pa_cons (pe_bltn (v := .ty "str") (u := .type "str") (by rfl) T.str (by decide +kernel) rfl) pa_nil)))))
        (pw_or (pt_cmpR op_ne (pv 3) (pv 5) (nomark _)) (pw_or1 (pt_not (pt_val (pe_callB call_isi (by rfl) T.isi (by decide +kernel) (pa_cons (pv 4) (pa_cons (pe_bltn (v := .ty "list") (u := .type "list") (by rfl) T.list (by decide +kernel) rfl) pa_nil))))))))))
        (pss_one (ps_ret pe_bl)) pss_nil) <|
      pss_cons (ps_set (i := 6) scSound.nd rfl (Or.inl rfl) (pe_call GA hr (by rfl) mA kA bA .nil (passes_call (takes_of rfl rfl rfl rfl) (fun _ _ _ _ z => z)) (pa_cons (pv 0) (pa_cons (pv 1) pa_nil)))) <|
      pss_cons (ps_set (i := 7) scSound.nd rfl (Or.inl rfl) pe_dnewK) <|
      pss_cons (ps_for (passes_of rfl) rfl (pi_list (pv 4)) (pg_name (i := 8) scSound.nd rfl (Or.inl rfl))
        (pss_cons (ps_set (i := 9) scSound.nd rfl (Or.inl rfl) (pe_call GN (hr.mono (by decide)) (by rfl) mN kN bN .nil pass0 (pa_cons (pv 6) (pa_cons (pv 8) pa_nil)))) <|
        pss_cons (ps_if (pt_cmpR op_isN (pv 9) pe_non (nomark _)) (pss_one (ps_ret pe_bl)) pss_nil) <|
        pss_one (ps_dput hu (pv 7) (pv 9) pe_bl (by rfl)))) <|
      pss_one (ps_ret (pe_cmpR op_eq (pe_callB call_lenD (by rfl) T.len PySem.boot_len (pa_cons (pv 7) pa_nil)) (pe_callB call_len_seq (by rfl) T.len PySem.boot_len (pa_cons (pv 6) pa_nil)) (nomark _))), ?_⟩
    have q0 := q H (Same.refl H)
    refine ⟨_, rfl, _, rfl, .inl ⟨b, wd, rfl, hb, ?_⟩⟩
    refine ⟨_, rfl, _, rfl, .inl ⟨n, rfl, n1, n3, ?_⟩⟩
    cases z with
    | no =>
      rcases hv with hv | ⟨p, xs, rfl, hp, hne⟩
      · obtain ⟨t, ty, kt⟩ := hv.noT (K := K)
        exact ⟨_, rfl, _, _, _, _, false, rfl, .ty "tuple", ty, kit_ty kt, false, rfl, iteT q0⟩
      · refine ⟨_, rfl, _, _, _, _, true, rfl, .ty "tuple", sqT_ty hp, kit_ty (by decide +kernel), true, rfl, iteF ?_⟩
        refine ⟨_, rfl, p, _, rfl, .inr hp, rfl, _, rfl, ?_⟩
        rw [decide_eq_false (show ¬ (V.int ((xs.length : Nat) : Int) = V.int 2) from fun e => by injection e with e; omega)]
        exact iteT q0
    | two z rs =>
      obtain ⟨p, x, y, rfl, hp, hz, hrs⟩ := hv
      refine ⟨_, rfl, _, _, _, _, true, rfl, .ty "tuple", sqT_ty hp, kit_ty (by decide +kernel), true, rfl, iteF ?_⟩
      refine ⟨_, rfl, p, _, rfl, .inr hp, rfl, _, rfl, iteF ?_⟩
      refine ⟨_, rfl, p, _, rfl, hp, rfl, _, _, rfl, _, _, rfl, rfl, ?_⟩
      refine ⟨_, rfl, b, wd, rfl, hb, ?_⟩
      refine ⟨_, rfl, rfl, _, rfl, ?_⟩
      cases hw : reasonW wd with
      | none =>
        have e : soundV wd n (.two z rs) = false := by
          cases z <;> cases rs <;> try rfl
          show (decide (reasonW wd = some _) && _) = false
          rw [hw]
          rfl
        rw [e] at q0
        exact iteT q0
      | some rw_ =>
        refine iteF ?_
        cases z with
        | none =>
          rcases hz with rfl | ⟨i, rfl⟩
          · exact ⟨_, rfl, _, _, _, _, false, rfl, .ty "str", .base .non, kit_ty (by decide +kernel), false, rfl, iteT q0⟩
          · exact ⟨_, rfl, _, _, _, _, false, rfl, .ty "str", .base (.int i), kit_ty (by decide +kernel), false, rfl, iteT q0⟩
        | some z =>
          obtain rfl : x = .str z := hz
          refine ⟨_, rfl, _, _, _, _, true, rfl, .ty "str", .base (.str z), kit_ty (by decide +kernel), true, rfl, iteF ?_⟩
          refine ⟨_, rfl, _, rfl, rfl, _, rfl, ?_⟩
          show if (!decide (V.str z = V.str rw_)) = true then _ else _
          rw [dec_str]
          by_cases hzz : z = rw_
          · subst hzz
            rw [decide_eq_true rfl]
            refine iteF ?_
            cases rs with
            | none =>
              rcases hrs with rfl | ⟨q1, xs, rfl, hq⟩
              · exact ⟨_, rfl, _, _, _, _, false, rfl, .ty "list", .base .non, kit_ty (by decide +kernel), false, rfl, iteT q0⟩
              · exact ⟨_, rfl, _, _, _, _, false, rfl, .ty "list", sqT_ty hq, kit_ty (by decide +kernel), false, rfl, iteT q0⟩
            | some rs =>
              obtain ⟨l, vs, rfl, hl, hlen, hR, hO⟩ := hrs
              have hq : ∀ H', Same H H' → Q (.bl (soundP wd.o n rs)) H' := fun H' s' => by
                have := q H' s'
                have e : soundV wd n (.two (some z) (some rs)) = soundP wd.o n rs := by
                  show (decide (reasonW wd = some z) && _) = _
                  rw [hw, decide_eq_true rfl, Bool.true_and]
                rw [e] at this
                exact this
              refine ⟨_, rfl, _, _, _, _, true, rfl, .ty "list", .base (.lst hl), kit_ty (by decide +kernel), true, rfl, iteF ?_⟩
              refine ⟨_, rfl, _, rfl, b, wd, n, rfl, hb, hok, n3, fun pl qs H1 npl s1 hpl hP => ?_⟩
              refine fun d nd => ?_
              have s2 := s1.trans (same_new (o := .dK []) nd)
              have hPs := prs_ok wd.o n3
              have hps := pairs_small (o := wd.o) n3
              have nd0 : H d = none := none_of s1 nd
              refine ⟨_, rfl, l, rfl, ⟨_, SqL.of (s2 _ _ hl)⟩, for_it (walk_list (K := K) (a := l) (xs := vs)) (fun j σ H' => ∃ v8 v9 ks, σ = [some (.ref b), some (.int n), some (.ref p), some (.str z), some (.ref l), some (.str z), some (.ref pl), some (.ref d), v8, v9] ∧ Same H H' ∧ H' pl = some (.lst (qs.map V.ref)) ∧ Lst2 (PairAt K H') qs (pairsL wd.o n) ∧ H' d = some (.dK (toldK ks)) ∧ toldL (pairsL wd.o n) (rs.take j) [] = some ks)
                ⟨none, none, [], rfl, s2, (same_new nd) _ _ hpl, hP.imp fun _ _ h => h.same (same_new nd), upd_same, rfl⟩ (fun j σ H' _ h => by obtain ⟨_, _, _, _, h, _⟩ := h; exact SqL.of (h _ _ hl)) ?_ ?_⟩
              · rintro j x σ H2 H3 hj ⟨v8, v9, ks, rfl, s3, hpl3, hP3, hd3, hks⟩ ⟨rfl, hx⟩
                obtain ⟨r, hr1, hr2⟩ := hR.2 j x hx
                refine ⟨_, rfl, _, rfl, pl, qs, _, x, r, rfl, hpl3, hP3, hPs, by omega, hr2.same s3, fun H4 s4 => ?_⟩
                have e1 := toldL_app (ps := pairsL wd.o n) (rs.take j) [] r
                rw [hks] at e1
                refine ⟨_, rfl, rfl, _, rfl, ?_⟩
                have tk : rs.take (j + 1) = rs.take j ++ [r] := by rw [List.take_add_one, hr1]; rfl
                rw [← tk] at e1
                cases hn : numP (pairsL wd.o n) r with
                | none =>
                  have e2 : soundP wd.o n rs = false := by
                    unfold soundP
                    rw [toldL_none rs [] ⟨r, List.mem_of_getElem? hr1, hn⟩]
                  refine iteT ?_
                  have q1 := hq H4 (s3.trans s4)
                  rw [e2] at q1
                  exact q1
                | some k =>
                  refine iteF ?_
                  rw [hn] at e1
                  have hd4 := s4 _ _ hd3
                  have hlk := toldL_len _ _ _ hks
                  rw [List.length_take, List.length_nil] at hlk
                  have hrl := hR.1
                  refine ⟨_, rfl, _, rfl, d, _, rfl, DPut.k (k := Sum.inl (k : Int)) hd4 ?_, _, _, _, rfl, ?_, ?_, ?_, ?_, e1⟩
                  · unfold toldK
                    rw [List.length_map]
                    exact small5 (by omega)
                  · exact same_upd (s3.trans s4) nd0
                  · rw [upd_ne (ne_of_none hpl nd)]
                    exact s4 _ _ hpl3
                  · exact hP3.imp fun _ _ h => (h.same s4).dK hd4
                  · rw [upd_same, told_put]
              · rintro σ H2 ⟨v8, v9, ks, rfl, s3, hpl3, hP3, hd3, hks⟩
                have htk : rs.take vs.length = rs := List.take_of_length_le (by rw [hR.1]; exact Nat.le_refl _)
                rw [htk] at hks
                refine ⟨_, rfl, d, _, rfl, hd3, _, rfl, pl, _, rfl, .inl (SqL.of hpl3), rfl, ?_⟩
                have q1 := hq H2 s3
                unfold soundP at q1
                rw [hks] at q1
                have e : decide (V.int ((toldK ks).length : Nat) = V.int ((qs.map V.ref).length : Nat)) = decide (ks.length = (pairsL wd.o n).length) := by
                  unfold toldK
                  rw [List.length_map, List.length_map, hP.1, decide_eq_decide]
                  exact ⟨fun e => by injection e with e; omega, fun e => by rw [e]⟩
                rw [e]
                exact q1
          · have e : soundV wd n (.two (some z) rs) = false := by
              cases rs with
              | none => rfl
              | some rs =>
                show (decide (reasonW wd = some z) && _) = false
                rw [hw, decide_eq_false (fun e => hzz (Option.some.inj e).symm), Bool.false_and]
            rw [e] at q0
            rw [decide_eq_false hzz]
            exact iteT q0
end
end K1
namespace K1
open PySem PySem.Spec PyProof.Rows L2 Bk
theorem scPlA : FnScope ["_law_one", "_law_other", "_law_found", "_law_at"] ["_law_one", "_law_other"] (defScope sPlApart) := ⟨rfl, rfl, rfl, by decide +kernel, rfl, by decide +kernel, by decide +kernel⟩
theorem scIsInt : FnScope ["_law_value"] ["_law_value"] (defScope sIsInt) := ⟨rfl, rfl, rfl, by decide +kernel, rfl, by decide +kernel, by decide +kernel⟩
theorem scIsRow : FnScope ["_law_words", "_law_places", "_law_row", "_law_shape", "_law_word"] ["_law_words", "_law_places", "_law_row"] (defScope sIsRow) := ⟨rfl, rfl, rfl, by decide +kernel, rfl, by decide +kernel, by decide +kernel⟩
def natV (js : List Nat) : List V := js.map fun (j : Nat) => V.int (j : Int)
def spPlA (K : PySem.W.Frag) : Sp := fun vs H Q _ => ∃ (q q' : Addr) (a b : List Str), vs = [.ref q, .ref q'] ∧ TQ K H q a ∧ TQ K H q' b ∧ a.length = b.length ∧ a.length ≤ 100 ∧ (∀ w ∈ a, w ∈ shW) ∧ (∀ w ∈ b, w ∈ shW) ∧ ∀ (l : Addr) (H' : Hp), H l = none → Same H H' → H' l = some (.lst (natV (plA a b))) → Q (.ref l) H'
def spIsInt : Sp := fun vs H Q _ => ∃ (v : V) (i : Option Int), vs = [v] ∧ IxAt v i ∧ Q (.bl i.isSome) H
def spIsRow (K : PySem.W.Frag) : Sp := fun vs H Q _ => ∃ (l : Addr) (wd : Wds) (n : Nat) (v : V) (r : RV), vs = [.ref l, .int (n : Int), v] ∧ H l = some (.lst (wd.list.map V.str)) ∧ n ≤ 3 ∧ RowAt K H v r ∧ ∀ H', Same H H' → Q (.bl (rowL wd.o n r)) H'
theorem apart_in {x y : Str} (hx : x ∈ shW) (hy : y ∈ shW) : (decide (("own" : Str) ∈ [x, y]) && !decide (("any" : Str) ∈ [x, y])) = apartW x y := by
  have e : (shW.all fun x => shW.all fun y => (decide (("own" : Str) ∈ [x, y]) && !decide (("any" : Str) ∈ [x, y])) == apartW x y) = true := by decide +kernel
  rw [List.all_eq_true] at e
  have e := e x hx
  rw [List.all_eq_true] at e
  exact eq_of_beq (e y hy)
theorem plA_step {a b : List Str} {i : Nat} : (List.range (i + 1)).filter (apartI a b) = (List.range i).filter (apartI a b) ++ (if apartI a b i = true then [i] else []) := by
  rw [List.range_succ, List.filter_append]
  congr 1
  by_cases h : apartI a b i = true
  · rw [if_pos h, List.filter_cons_of_pos h]
    rfl
  · rw [if_neg h, List.filter_cons_of_neg h]
    rfl
section
variable {P : Program} {w : World} {K : PySem.W.Frag} {mg : Str → Option Value} {base : Heap} {CB CE CP : Addr}
theorem ok_isInt {f : Addr} {fd : FuncData} (F : Fun K "_law_is_integer" "_law_is_integer" sIsInt f fd) (T : Tx mg) : FnOk P w K mg base CX0 1 f fd ["_law_value"] spIsInt := by
  refine F.ok scIsInt (fun vs H Q E h => ?_) (fun cdv A outer s H vs Q E hr h => ?_)
  · obtain ⟨v, i, rfl, _⟩ := h
    rfl
  · obtain ⟨v, i, rfl, hv, q⟩ := h
    refine ⟨_, pss_one (ps_ret (pe_and (pe_callB call_isi (by rfl) T.isi (by decide +kernel) (pa_cons (pv 0) (pa_cons (pe_bltn (v := .ty "int") (u := .type "int") (by rfl) T.int (by decide +kernel) rfl) pa_nil)))
      (pe_one (pe_not (pe_callB call_isi (by rfl) T.isi (by decide +kernel) (pa_cons (pv 0) (pa_cons (pe_bltn (v := .ty "bool") (u := .type "bool") (by rfl) T.bool (by decide +kernel) rfl) pa_nil))))))), ?_⟩
    cases i with
    | none =>
      obtain ⟨b, rfl⟩ := hv
      exact ⟨_, rfl, _, _, _, _, true, rfl, .ty "int", .base (.bl b), kit_ty (by decide +kernel), true, rfl, iteT ⟨_, rfl, _, _, _, _, true, rfl, .ty "bool", .base (.bl b), kit_ty (by decide +kernel), true, rfl, q⟩⟩
    | some i =>
      obtain rfl : v = .int i := hv
      exact ⟨_, rfl, _, _, _, _, true, rfl, .ty "int", .base (.int i), kit_ty (by decide +kernel), true, rfl, iteT ⟨_, rfl, _, _, _, _, false, rfl, .ty "bool", .base (.int i), kit_ty (by decide +kernel), false, rfl, q⟩⟩
theorem ok_plA {f : Addr} {fd : FuncData} (F : Fun K "_law_places_apart" "_law_places_apart" sPlApart f fd) (T : Tx mg) : FnOk P w K mg base CX0 1 f fd ["_law_one", "_law_other"] (spPlA K) := by
  refine F.ok scPlA (fun vs H Q E h => ?_) (fun cdv A outer s H vs Q E hr h => ?_)
  · obtain ⟨q, q', a, b, rfl, _⟩ := h
    rfl
  · obtain ⟨p, p', a, b, rfl, hp, hp', hl, hn, ha, hb, q⟩ := h
    refine ⟨_, pss_cons (ps_set (i := 2) scPlA.nd rfl (Or.inl rfl) (pe_lst pa_nil)) <|
      pss_cons (ps_for PassesOwn.never rfl (pi_range1 (by rfl) T.range (pa_cons (pe_callB call_len_seq (by rfl) T.len PySem.boot_len (pa_cons (pv 0) pa_nil)) pa_nil)) (pg_name (i := 3) scPlA.nd rfl (Or.inl rfl))
        (pss_one (ps_if (PW.pt (pw_and (pt_cmpR op_in_seq pe_str (pe_lst (pa_cons (pe_ix ix_tup (pv 0) (pv 3) (fun _ _ => rfl)) (pa_cons (pe_ix ix_tup (pv 1) (pv 3) (fun _ _ => rfl)) pa_nil))) (by rfl))
            (pw_and1 (pt_cmpR op_notIn_seq pe_str (pe_lst (pa_cons (pe_ix ix_tup (pv 0) (pv 3) (fun _ _ => rfl)) (pa_cons (pe_ix ix_tup (pv 1) (pv 3) (fun _ _ => rfl)) pa_nil))) (by rfl)))))
          (pss_one (ps_expr (pe_bm PySem.F.plainAttrs_list PySem.F.slot_list_append PySem.F.type_list_append mt_append (pv 2) (pa_cons (pv 3) pa_nil)))) pss_nil))) <|
      pss_one (ps_ret (pv 2)), ?_⟩
    refine ⟨by show 0 ≤ sizeLine; decide, fun l nl => ?_⟩
    have sl := same_new (o := .lst []) nl
    refine ⟨_, rfl, p, _, rfl, .inr (sqT_same hp sl), _, rfl, by omega, by rw [List.length_map]; omega, ?_⟩
    rw [show (((a.map V.str).length : Nat) : Int).toNat = a.length by rw [List.length_map]; rfl]
    refine for_range (lo := 0) (n := a.length) (fun i σ H' => ∃ v3, σ = [some (.ref p), some (.ref p'), some (.ref l), v3] ∧ Same H H' ∧ H' l = some (.lst (natV ((List.range i).filter (apartI a b))))) ⟨none, rfl, sl, upd_same⟩ ?_ ?_
    · rintro i σ H1 hi ⟨v3, rfl, s1, hl1⟩
      have hA : (a.map V.str)[i]? = some (V.str a[i]) := by rw [List.getElem?_map, List.getElem?_eq_getElem hi]; rfl
      have hi' : i < b.length := by omega
      have hB : (b.map V.str)[i]? = some (V.str b[i]) := by rw [List.getElem?_map, List.getElem?_eq_getElem hi']; rfl
      have hap := apart_in (ha _ (List.getElem_mem hi)) (hb _ (List.getElem_mem hi'))
      have e1 : apartI a b i = apartW a[i] b[i] := by
        unfold apartI
        rw [List.getElem?_eq_getElem hi, List.getElem?_eq_getElem hi']
      have step := plA_step (a := a) (b := b) (i := i)
      rw [e1, ← hap] at step
      refine ⟨_, rfl, _, rfl, p, _, (i : Int), _, rfl, congrArg V.int (Int.zero_add _), sqT_same hp s1, atI_nat hA, _, rfl, _, rfl, p', _, (i : Int), _, rfl, congrArg V.int (Int.zero_add _), sqT_same hp' s1, atI_nat hB, by show 2 ≤ sizeLine; decide, fun m nm => ?_⟩
      have s2 := s1.trans (same_new (o := .lst [.str a[i], .str b[i]]) nm)
      refine ⟨m, _, rfl, .inl (SqL.of upd_same), rfl, rfl, _, rfl, ?_⟩
      rw [if_neg Bool.false_ne_true, show inV (V.str "own") [V.str a[i], V.str b[i]] = decide (("own" : Str) ∈ [a[i], b[i]]) from in_strs "own" [a[i], b[i]]]
      have hl2 := (same_new (o := .lst [.str a[i], .str b[i]]) nm) _ _ hl1
      refine ite2 (fun c => ?_) (fun c => ?_)
      · refine ⟨_, rfl, _, rfl, p, _, (i : Int), _, rfl, congrArg V.int (Int.zero_add _), sqT_same hp s2, atI_nat hA, _, rfl, _, rfl, p', _, (i : Int), _, rfl, congrArg V.int (Int.zero_add _), sqT_same hp' s2, atI_nat hB, by show 2 ≤ sizeLine; decide, fun m2 nm2 => ?_⟩
        have s3 := s2.trans (same_new (o := .lst [.str a[i], .str b[i]]) nm2)
        refine ⟨m2, _, rfl, .inl (SqL.of upd_same), rfl, rfl, _, rfl, ?_⟩
        rw [if_pos rfl, show inV (V.str "any") [V.str a[i], V.str b[i]] = decide (("any" : Str) ∈ [a[i], b[i]]) from in_strs "any" [a[i], b[i]]]
        have hl3 := (same_new (o := .lst [.str a[i], .str b[i]]) nm2) _ _ hl2
        rw [c, Bool.true_and] at step
        refine ite2 (fun c2 => ?_) (fun c2 => ?_)
        · rw [if_pos c2] at step
          refine ⟨_, rfl, .inl ⟨rfl, _, SqL.of hl3⟩, _, rfl, l, _, _, rfl, rfl, hl3, ?_, _, rfl, same_upd s3 nl, ?_⟩
          · unfold natV
            rw [List.length_map]
            have h1 : ((List.range i).filter (apartI a b)).length ≤ (List.range i).length := List.length_filter_le _ _
            rw [List.length_range] at h1
            exact small1000 (by omega)
          · rw [upd_same, step]
            unfold natV
            rw [List.map_append, Int.zero_add]
            rfl
        · rw [if_neg c2, List.append_nil] at step
          exact ⟨_, rfl, s3, by rw [step]; exact hl3⟩
      · rw [Bool.not_eq_true] at c
        rw [c, Bool.false_and, if_neg Bool.false_ne_true, List.append_nil] at step
        exact ⟨_, rfl, s2, by rw [step]; exact hl2⟩
    · rintro σ H1 ⟨v3, rfl, s1, hl1⟩
      exact ⟨_, rfl, q l H1 nl s1 hl1⟩
end
end K1
namespace K1
open PySem PySem.Spec PyProof.Rows L2 Bk
def hOk (o : Str) (n : Nat) : Option (List Str) → Bool
  | some r => okS o n r
  | none => false
theorem rowL_false {o : Str} {n : Nat} {a b : Option (List Str)} {i : Option Int} (h : hOk o n a = false ∨ hOk o n b = false) : rowL o n (.tri a b i) = false := by
  cases a with
  | none => rfl
  | some a =>
    cases b with
    | none => rfl
    | some b =>
      cases i with
      | none => rfl
      | some i =>
        show (okS o n a && okS o n b && _ && _) = false
        rcases h with h | h
        · rw [show okS o n a = false from h, Bool.false_and, Bool.false_and, Bool.false_and]
        · rw [show okS o n b = false from h, Bool.and_false, Bool.false_and, Bool.false_and]
theorem in_nats (i : Int) (js : List Nat) : inV (.int i) (natV js) = js.any fun j => decide ((j : Int) = i) := by
  unfold inV natV
  rw [List.any_map]
  congr 1
theorem flat_nats : ∀ js : List Nat, (natV js).all flatV = true
  | [] => rfl
  | j :: js => by
    show (flatV _ && (natV js).all flatV) = true
    rw [flat_nats js]
    rfl
section
variable {P : Program} {w : World} {K : PySem.W.Frag} {mg : Str → Option Value} {base : Heap} {CB CE CP : Addr}
theorem ok_isRow {f fI fL fA : Addr} {fd fdI fdL fdA : FuncData} (F : Fun K "_law_is_row" "_law_is_row" sIsRow f fd) (T : Tx mg)
    (mI : mg "_law_is_integer" = some (.ref fI)) (kI : PySem.W.keepIn K (.ref fI) = true) (bI : Binds K fdI ["_law_value"] []) (GI : FnOk P w K mg base CX0 1 fI fdI ["_law_value"] spIsInt)
    (mL : mg "_law_lets" = some (.ref fL)) (kL : PySem.W.keepIn K (.ref fL) = true) (bL : Binds K fdL ["_law_owning", "_law_shape"] []) (GL : FnOk P w K mg base CX0 1 fL fdL ["_law_owning", "_law_shape"] (spLets K))
    (mA : mg "_law_places_apart" = some (.ref fA)) (kA : PySem.W.keepIn K (.ref fA) = true) (bA : Binds K fdA ["_law_one", "_law_other"] []) (GA : FnOk P w K mg base CX0 1 fA fdA ["_law_one", "_law_other"] (spPlA K)) :
    FnOk P w K mg base CX0 2 f fd ["_law_words", "_law_places", "_law_row"] (spIsRow K) := by
  refine F.ok scIsRow (fun vs H Q E h => ?_) (fun cdv A outer s H vs Q E hr h => ?_)
  · obtain ⟨l, wd, n, v, r, rfl, _⟩ := h
    rfl
  · obtain ⟨l, wd, n, v, r, rfl, hl, hn, hv, q⟩ := h
    refine ⟨_, pss_cons (ps_if (PW.pt (pw_or (pt_not (pt_val (pe_callB call_isi (by rfl) T.isi (by decide +kernel) (pa_cons (pv 2) (pa_cons (pe_bltn (v := .ty "tuple") (u := .type "tuple") (by rfl) T.tuple (by decide +kernel) rfl) pa_nil)))))
        (pw_or (pt_cmpR op_ne (pe_callB call_len_seq (by rfl) T.len PySem.boot_len (pa_cons (pv 2) pa_nil)) pe_int (nomark _))
        (pw_or1 (pt_not (pt_val (pe_call GI hr (by rfl) mI kI bI .nil pass0 (pa_cons (pe_ix ix_tup (pv 2) pe_int (fun _ _ => rfl)) pa_nil)))))))) (pss_one (ps_ret pe_bl)) pss_nil) <|
      pss_cons (ps_for PassesOwn.never rfl (pi_tup (pe_slice sl_tupA (pv 2) po_none (po_some pe_int))) (pg_name (i := 3) scIsRow.nd rfl (Or.inl rfl))
        (pss_cons (ps_if (PW.pt (pw_or (pt_not (pt_val (pe_callB call_isi (by rfl) T.isi (by decide +kernel) (pa_cons (pv 3) (pa_cons (pe_bltn (v := .ty "tuple") (u := .type "tuple") (by rfl) T.tuple (by decide +kernel) rfl) pa_nil)))))
            (pw_or1 (pt_not (pt_chain op_le op_le pe_int (pe_callB call_len_seq (by rfl) T.len PySem.boot_len (pa_cons (pv 3) pa_nil)) (pv 1)))))) (pss_one (ps_ret pe_bl)) pss_nil) <|
        pss_cons (ps_if (pt_cmpR (op_neD hr.units) (pe_lc (own := [("_law_word", 4)]) (g := gName 4) (by rfl) scIsRow.nd (pi_tup (pv 3)) (blkOk_by (own := [("_law_word", 4)]) (N := ["_law_words", "_law_places", "_law_row", "_law_shape", "_law_word"]) (sc := defScope sIsRow) (by decide +kernel)) (fun _ _ _ _ _ => pg_name (i := 4) scIsRow.nd rfl (Or.inl rfl))
            (fun _ _ _ _ _ => by exact pts_one (pt_cmpR (show OpR _ (compareOp .NotIn) (rIn K true) from op_notIn_seq) (pv 4) (pe_lst (pa_cons pe_str (pa_cons pe_str (pa_cons pe_str pa_nil)))) (by rfl))) (fun _ _ _ _ _ => pv 4)) (pe_lst pa_nil) (nomark _)) (pss_one (ps_ret pe_bl)) pss_nil) <|
        pss_one (ps_if (pt_not (pt_val (pe_call GL hr (by rfl) mL kL bL .nil pass0 (pa_cons (pe_ix ix_list (pv 0) pe_int (fun _ _ => rfl)) (pa_cons (pv 3) pa_nil))))) (pss_one (ps_ret pe_bl)) pss_nil))) <|
      pss_one (ps_ret (pe_and (pe_cmpR op_eq (pe_callB call_len_seq (by rfl) T.len PySem.boot_len (pa_cons (pe_ix ix_tup (pv 2) pe_int (fun _ _ => rfl)) pa_nil)) (pe_callB call_len_seq (by rfl) T.len PySem.boot_len (pa_cons (pe_ix ix_tup (pv 2) pe_int (fun _ _ => rfl)) pa_nil)) (nomark _))
        (pe_one (pe_cmpR op_in_seq (pe_ix ix_tup (pv 2) pe_int (fun _ _ => rfl)) (pe_call GA hr (by rfl) mA kA bA .nil pass0 (pa_cons (pe_ix ix_tup (pv 2) pe_int (fun _ _ => rfl)) (pa_cons (pe_ix ix_tup (pv 2) pe_int (fun _ _ => rfl)) pa_nil))) (by rfl))))), ?_⟩
    have q0 := q H (Same.refl H)
    cases r with
    | no =>
      rcases hv with hv | ⟨p, xs, rfl, hp, hne⟩
      · obtain ⟨t, ty, kt⟩ := hv.noT (K := K)
        exact ⟨_, rfl, _, _, _, _, false, rfl, .ty "tuple", ty, kit_ty kt, false, rfl, iteT q0⟩
      · refine ⟨_, rfl, _, _, _, _, true, rfl, .ty "tuple", sqT_ty hp, kit_ty (by decide +kernel), true, rfl, iteF ?_⟩
        refine ⟨_, rfl, p, _, rfl, .inr hp, rfl, _, rfl, ?_⟩
        rw [decide_eq_false (show ¬ (V.int ((xs.length : Nat) : Int) = V.int 3) from fun e => by injection e with e; omega)]
        exact iteT q0
    | tri a b i =>
      obtain ⟨p, x, y, z, rfl, hp, hx, hy, hz⟩ := hv
      refine ⟨_, rfl, _, _, _, _, true, rfl, .ty "tuple", sqT_ty hp, kit_ty (by decide +kernel), true, rfl, iteF ?_⟩
      refine ⟨_, rfl, p, _, rfl, .inr hp, rfl, _, rfl, iteF ?_⟩
      refine ⟨_, rfl, p, _, 2, _, rfl, rfl, hp, atI_nat (j := 2) rfl, z, i, rfl, hz, _, rfl, ?_⟩
      cases i with
      | none =>
        have e : rowL wd.o n (.tri a b none) = false := by cases a <;> cases b <;> rfl
        rw [e] at q0
        exact iteT q0
      | some i =>
        obtain rfl : z = .int i := hz
        refine iteF ?_
        refine ⟨_, rfl, 2, rfl, p, _, rfl, hp, fun wh => ?_, fun _ p2 np2 => ?_⟩
        · have := wh.2
          rw [show HT.sIx [x, y, V.int i].length [x, y, V.int i].length (some (2 : Int)) = 2 from HT.sIx_nat _ _ 2] at this
          cases this
        have ec : cutV [x, y, V.int i] none (some 2) = [x, y] := by
          unfold cutV
          rw [HT.sIx_none, show HT.sIx [x, y, V.int i].length [x, y, V.int i].length (some (2 : Int)) = 2 from HT.sIx_nat _ _ 2]
          rfl
        rw [ec]
        have s2 := same_new (o := .tup [x, y]) np2
        have fls : hOk wd.o n a = false ∨ hOk wd.o n b = false → ∀ H', Same H H' → Q (.bl false) H' := fun h H' s' => by
          have := q H' s'
          rw [rowL_false h] at this
          exact this
        refine ⟨p2, rfl, ⟨_, SqT.of upd_same⟩, for_it (walk_tup (K := K) (a := p2) (xs := [x, y])) (fun j σ H' => ∃ v3, σ = [some (.ref l), some (.int n), some (.ref p), v3, none] ∧ Same H H' ∧ H' p2 = some (.tup [x, y]) ∧ (1 ≤ j → hOk wd.o n a = true) ∧ (2 ≤ j → hOk wd.o n b = true)) ⟨none, rfl, s2, upd_same, fun h => by omega, fun h => by omega⟩ (fun j σ H' _ h => by obtain ⟨_, _, _, h, _⟩ := h; exact SqT.of h) ?_ ?_⟩
        · rintro j u σ H1 H2 hj ⟨v3, rfl, s3, hp2, k1, k2⟩ ⟨rfl, hu⟩
          -- the shape at hand
          have hh : ∃ c, ShAt K H u c ∧ (hOk wd.o n c = false → hOk wd.o n a = false ∨ hOk wd.o n b = false) ∧ (hOk wd.o n c = true → (1 ≤ j + 1 → hOk wd.o n a = true) ∧ (2 ≤ j + 1 → hOk wd.o n b = true)) := by
            match j, hu, k1 with
            | 0, hu, _ =>
              have e : x = u := by simpa using hu
              exact ⟨a, e ▸ hx, .inl, fun h => ⟨fun _ => h, fun h => by omega⟩⟩
            | 1, hu, k1 =>
              have e : y = u := by simpa using hu
              exact ⟨b, e ▸ hy, .inr, fun h => ⟨fun _ => k1 (Nat.le_refl _), fun _ => h⟩⟩
            | j + 2, hu, _ => simp at hu
          obtain ⟨c, hc, c1, c2⟩ := hh
          cases c with
          | none =>
            obtain ⟨t, ty, kt⟩ := (hc.same s3).noT (K := K)
            exact ⟨_, rfl, _, _, _, _, false, rfl, .ty "tuple", ty, kit_ty kt, false, rfl, iteT (fls (c1 rfl) _ s3)⟩
          | some c =>
            obtain ⟨xc, rfl, hxc, lc, wc⟩ := hc.same s3
            have hxc : SqT K H2 xc (c.map V.str) := hxc
            refine ⟨_, rfl, _, _, _, _, true, rfl, .ty "tuple", sqT_ty hxc, kit_ty (by decide +kernel), true, rfl, iteF ?_⟩
            refine ⟨_, rfl, xc, _, rfl, .inr hxc, _, _, rfl, rfl, _, rfl, ?_⟩
            rw [List.length_map]
            by_cases h1 : 1 ≤ c.length
            · rw [decide_eq_true (show (1 : Int) ≤ ((c.length : Nat) : Int) by omega)]
              refine iteT ⟨_, rfl, _, _, rfl, rfl, _, rfl, ?_⟩
              by_cases h2 : c.length ≤ n
              · rw [decide_eq_true (show ((c.length : Nat) : Int) ≤ (n : Int) by omega)]
                refine iteF ?_
                refine ⟨_, rfl, xc, rfl, ⟨_, hxc⟩, fun D nD => ?_⟩
                have sD := same_new (o := .lst []) nD
                refine lc_tup (K := K) (a := xc) (xs := c.map V.str) (fun _ H' => Same H2 H' ∧ H' D = some (.lst [])) ⟨sD, upd_same⟩ (fun _ H' _ h => sqT_same hxc h.1) ?_ ?_
                · rintro k yv H3 hyv ⟨s4, hD⟩
                  obtain ⟨wv, hwv, rfl⟩ := str_at2 hyv
                  refine ⟨rfl, ?_⟩
                  refine ⟨_, rfl, by show 3 ≤ sizeLine; decide, fun m nm => ⟨m, _, rfl, .inl (SqL.of upd_same), rfl, rfl, _, rfl, ?_⟩⟩
                  rw [if_pos rfl, show inV (V.str wv) [V.str "own", V.str "seen", V.str "any"] = decide (wv ∈ shW) from in_strs wv shW, decide_eq_true (wc wv (List.mem_of_getElem? hwv))]
                  exact iteF ⟨s4.trans (same_new nm), (same_new nm) _ _ hD⟩
                · rintro H3 ⟨s4, hD⟩
                  refine ⟨by show 0 ≤ sizeLine; decide, fun z0 nz => ?_⟩
                  have sz := same_new (o := .lst []) nz
                  refine ⟨.list [], .list [], .lst (SqL.of (sz _ _ hD)) .nil, .lst (SqL.of upd_same) .nil, by decide +kernel, by decide +kernel, _, rfl, ?_⟩
                  rw [show (!PyData.eqv (.list []) (.list [])) = false by decide +kernel]
                  refine iteF ?_
                  have s5 := (s3.trans s4).trans sz
                  have s6 := s4.trans sz
                  refine ⟨_, rfl, l, _, 0, _, rfl, rfl, SqL.of (s5 _ _ hl), atI_nat (j := 0) rfl, _, rfl, wd.o, xc, c, rfl, sqT_same hxc s6, (fun e => by rw [e] at h1; simp at h1), _, rfl, ?_⟩
                  have eo : hOk wd.o n (some c) = letB wd.o c := by
                    show okS wd.o n c = _
                    unfold okS
                    rw [decide_eq_true h1, decide_eq_true h2, Bool.and_self, Bool.true_and]
                  rw [eo] at c1 c2
                  cases hL : letB wd.o c with
                  | false => exact iteT (fls (c1 hL) _ s5)
                  | true =>
                    obtain ⟨d1, d2⟩ := c2 hL
                    exact iteF ⟨_, rfl, s5, s6 _ _ hp2, d1, d2⟩
              · rw [decide_eq_false (show ¬ ((c.length : Nat) : Int) ≤ (n : Int) by omega)]
                refine iteT (fls (c1 ?_) _ s3)
                show okS wd.o n c = false
                unfold okS
                rw [decide_eq_false h2, Bool.and_false, Bool.false_and]
            · rw [decide_eq_false (show ¬ (1 : Int) ≤ ((c.length : Nat) : Int) by omega)]
              refine iteF ⟨_, rfl, iteT (fls (c1 ?_) _ s3)⟩
              show okS wd.o n c = false
              unfold okS
              rw [decide_eq_false h1, Bool.false_and, Bool.false_and]
        · rintro σ H1 ⟨v3, rfl, s3, hp2, k1, k2⟩
          have w1 := k1 (show 1 ≤ 2 by decide)
          have w2 := k2 (show 2 ≤ 2 by decide)
          clear k1 k2
          cases a with
          | none => cases w1
          | some a =>
            cases b with
            | none => cases w2
            | some b =>
              obtain ⟨xa, rfl, ha, la, wa⟩ := hx
              obtain ⟨xb, rfl, hb, lb, wb⟩ := hy
              have k1 : okS wd.o n a = true := w1
              have k2 : okS wd.o n b = true := w2
              have er : rowL wd.o n (.tri (some a) (some b) (some i)) = (decide (a.length = b.length) && (plA a b).any fun j => decide ((j : Int) = i)) := by
                show rowQ wd.o n a b i = _
                unfold rowQ
                rw [k1, k2, Bool.and_self, Bool.true_and]
              rw [er] at q
              refine ⟨_, rfl, p, _, 0, _, rfl, rfl, sqT_same hp s3, atI_nat (j := 0) rfl, xa, _, rfl, .inr (sqT_same ha s3), _, rfl, p, _, 1, _, rfl, rfl, sqT_same hp s3, atI_nat (j := 1) rfl, xb, _, rfl, .inr (sqT_same hb s3), rfl, _, rfl, ?_⟩
              rw [List.length_map, List.length_map]
              by_cases he : a.length = b.length
              · rw [decide_eq_true he, Bool.true_and] at q
                rw [decide_eq_true (show V.int ((a.length : Nat) : Int) = V.int ((b.length : Nat) : Int) by rw [he])]
                refine iteT ⟨_, rfl, p, _, 2, _, rfl, rfl, sqT_same hp s3, atI_nat (j := 2) rfl, _, rfl, p, _, 0, _, rfl, rfl, sqT_same hp s3, atI_nat (j := 0) rfl, _, rfl, p, _, 1, _, rfl, rfl, sqT_same hp s3, atI_nat (j := 1) rfl, xa, xb, a, b, rfl, sqT_same ha s3, sqT_same hb s3, he, la, wa, wb, fun r H2 nr s4 hr2 => ?_⟩
                refine ⟨r, _, rfl, .inl (SqL.of hr2), rfl, flat_nats _, ?_⟩
                rw [if_neg Bool.false_ne_true, in_nats]
                exact q _ (s3.trans s4)
              · rw [decide_eq_false he, Bool.false_and] at q
                rw [decide_eq_false (show ¬ V.int ((a.length : Nat) : Int) = V.int ((b.length : Nat) : Int) from fun e => he (by injection e with e; omega))]
                exact iteF (q _ s3)
end
end K1
namespace K1
open PySem PySem.Spec PyProof.Rows L2 Bk
theorem scIsPaper : FnScope ["_law_words", "_law_places", "_law_value", "_law_pairs", "_law_many", "_law_one", "_law_other", "_law_row"] ["_law_words", "_law_places", "_law_value"] (defScope sIsPaper) := ⟨rfl, rfl, rfl, by decide +kernel, rfl, by decide +kernel, by decide +kernel⟩
/-- xs != [] -/
def rNeNil (K : PySem.W.Frag) : R2 := fun x y H Q => ∃ a b xs, x = .ref a ∧ y = .ref b ∧ SqL K H a xs ∧ SqL K H b [] ∧ Q (.bl (!xs.isEmpty)) H
theorem op_neNil {X : Cx} (hu : X.A.units < cLine) : OpR X (compareOp .NotEq) (rNeNil X.K) := by
  intro pins s σ H x y v u Q I rx ry h
  obtain ⟨a, b, xs, rfl, rfl, ha, hb, q⟩ := h
  cases rx
  cases ry
  obtain ⟨its, r, pl, _⟩ := I.list ha
  obtain ⟨its2, r2, pl2, _⟩ := I.list hb
  cases r2
  cases xs with
  | nil =>
    cases r
    exact PySem.SeqAt.RcNeAt.lists (e := fun _ => true) pl.isList pl2.isList rfl hu (fun j h1 _ => absurd h1 (Nat.not_lt_zero j)) _ _ _ _ ⟨.bl false, H, I, rfl, q⟩
  | cons x xs =>
    cases r
    exact PySem.SeqAt.RcNeAt.lists_lengths pl.isList pl2.isList rfl hu _ _ _ _ ⟨.bl true, H, I, rfl, q⟩
def paperV (wd : Wds) (n : Nat) : VV → Bool
  | .two (some z) (some rs) => decide (reasonW wd = some z) && paperL wd.o n rs
  | _ => false
def spIsPaper (K : PySem.W.Frag) : Sp := fun vs H Q _ => ∃ (l : Addr) (wd : Wds) (n : Nat) (v : V) (z : VV), vs = [.ref l, .int (n : Int), v] ∧ H l = some (.lst (wd.list.map V.str)) ∧ wd.Ok ∧ n ≤ 3 ∧ ValAt K H v z ∧ ∀ H', Same H H' → Q (.bl (paperV wd n z)) H'
def covB (pl : List (List Str × List Str)) (x y : List Str) : Bool := (pl.any fun z => decide (z = (x, y))) || (pl.any fun z => decide (z = (y, x)))
theorem cov_any (rs : List RV) (x y : List Str) : (rs.any fun r => decide (pairOf r = some (x, y)) || decide (pairOf r = some (y, x))) = covB (rs.filterMap pairOf) x y := by
  unfold covB
  rw [Bool.eq_iff_iff, List.any_eq_true, Bool.or_eq_true, List.any_eq_true, List.any_eq_true]
  simp only [List.mem_filterMap, Bool.or_eq_true, decide_eq_true_eq]
  constructor
  · rintro ⟨r, hr, h | h⟩
    · exact .inl ⟨_, ⟨r, hr, h⟩, rfl⟩
    · exact .inr ⟨_, ⟨r, hr, h⟩, rfl⟩
  · rintro (⟨z, ⟨r, hr, h⟩, rfl⟩ | ⟨z, ⟨r, hr, h⟩, rfl⟩)
    · exact ⟨r, hr, .inl h⟩
    · exact ⟨r, hr, .inr h⟩
theorem cover_iff {o : Str} {n : Nat} {rs : List RV} : coverL o n rs = true ↔ ∀ k, k < n → ∀ x ∈ shapesL o (k + 1), ∀ y ∈ shapesL o (k + 1), covB (rs.filterMap pairOf) x y = true := by
  unfold coverL
  simp only [cov_any, List.all_eq_true, List.mem_range]
/-- a row that the law takes -/
theorem rowL_tri {o : Str} {n : Nat} {r : RV} (h : rowL o n r = true) : ∃ a b i, r = .tri (some a) (some b) (some i) := by
  cases r with
  | no => cases h
  | tri a b i => cases a <;> cases b <;> cases i <;> first | exact ⟨_, _, _, rfl⟩ | cases h
theorem dp_pairs {K : PySem.W.Frag} {H : Hp} : ∀ (qs : List Addr) (ps : List (List Str × List Str)), Lst2 (PairAt K H) qs ps → DpAll K H (qs.map V.ref) (ps.map pairD)
  | [], [], _ => .nil
  | [], _ :: _, h => by
    have := h.1
    simp at this
  | _ :: _, [], h => by
    have := h.1
    simp at this
  | q :: qs, p :: ps, h => by
    obtain ⟨p2, h1, u1, u2, h2, h3, h4⟩ := h.2 0 q rfl
    cases h1
    exact .cons (.tup h2 (.cons (dp_row h3) (.cons (dp_row h4) .nil))) (dp_pairs qs ps ⟨by simpa using h.1, fun i b hb => h.2 (i + 1) b hb⟩)
def WdOk (p : List Str × List Str) : Prop := (∀ w ∈ p.1, w ∈ shW) ∧ ∀ w ∈ p.2, w ∈ shW
theorem can_pairs : ∀ ps : List (List Str × List Str), (∀ p ∈ ps, WdOk p) → PyData.canLayAll0 (ps.map pairD) = true
  | [], _ => rfl
  | p :: ps, h => by
    have h0 := h p List.mem_cons_self
    rw [List.map_cons, PyData.canLayAll0, can_pairs ps fun x hx => h x (List.mem_cons_of_mem _ hx), Bool.and_true]
    unfold pairD
    rw [PyData.canLay0, PyData.canLayAll0, PyData.canLayAll0, PyData.canLayAll0, can_row h0.1, can_row h0.2]
    rfl
theorem dep_pairs : ∀ ps : List (List Str × List Str), PyData.depthAll (ps.map pairD) ≤ 2
  | [] => by
    rw [List.map_nil, PyData.depthAll]
    exact Nat.zero_le _
  | p :: ps => by
    have := dep_pairs ps
    rw [List.map_cons, PyData.depthAll]
    have e : PyData.depth (pairD p) = 2 := by
      unfold pairD
      rw [PyData.depth, PyData.depthAll, PyData.depthAll, PyData.depthAll, dep_row, dep_row]
      rfl
    rw [e]
    omega
theorem shaped_pairs {ps : List (List Str × List Str)} (h : ∀ p ∈ ps, WdOk p) : SeqAt.shaped (.list (ps.map pairD)) = true := by
  unfold SeqAt.shaped
  rw [PyData.canLay0, can_pairs ps h, Bool.true_and, PyData.depth]
  have := dep_pairs ps
  exact decide_eq_true (by omega)
theorem any_pairs (ps : List (List Str × List Str)) (p : List Str × List Str) : ((ps.map pairD).any fun z => PyData.eqv z (pairD p)) = ps.any fun z => decide (z = p) := by
  rw [List.any_map]
  congr 1
  funext z
  exact eqv_pair z p
section
variable {P : Program} {w : World} {K : PySem.W.Frag} {mg : Str → Option Value} {base : Heap} {CB CE CP : Addr}
theorem ok_isPaper {f fN fW fL : Addr} {fd fdN fdW fdL : FuncData} (F : Fun K "_law_is_paper" "_law_is_paper" sIsPaper f fd) (T : Tx mg)
    (mN : mg "_law_reason" = some (.ref fN)) (kN : PySem.W.keepIn K (.ref fN) = true) (bN : Binds K fdN ["_law_words"] []) (GN : FnOk P w K mg base CX0 1 fN fdN ["_law_words"] (spLReason K))
    (mW : mg "_law_is_row" = some (.ref fW)) (kW : PySem.W.keepIn K (.ref fW) = true) (bW : Binds K fdW ["_law_words", "_law_places", "_law_row"] []) (GW : FnOk P w K mg base CX0 2 fW fdW ["_law_words", "_law_places", "_law_row"] (spIsRow K))
    (mL : mg "_law_shapes" = some (.ref fL)) (kL : PySem.W.keepIn K (.ref fL) = true) (bL : Binds K fdL ["_law_owning", "_law_places"] []) (GL : FnOk P w K mg base CX0 2 fL fdL ["_law_owning", "_law_places"] (spLShapes K)) :
    FnOk P w K mg base CX0 3 f fd ["_law_words", "_law_places", "_law_value"] (spIsPaper K) := by
  refine F.ok scIsPaper (fun vs H Q E h => ?_) (fun cdv A outer s H vs Q E hr h => ?_)
  · obtain ⟨l, wd, n, v, z, rfl, _⟩ := h
    rfl
  · obtain ⟨l, wd, n, v, z, rfl, hl, hok, hn, hv, q⟩ := h
    have hr1 : Room 1 _ := hr.mono (by decide)
    have hu65 : (A.deeper (envOfC "_law_is_paper" (defScope sIsPaper) s.heap.objs.size f cdv)).units + 65 < cLine := by
      have := hr.un
      omega
    refine ⟨_, pss_cons (ps_if (PW.pt (pw_or (pt_not (pt_val (pe_callB call_isi (by rfl) T.isi (by decide +kernel) (pa_cons (pv 2) (pa_cons (pe_bltn (v := .ty "tuple") (u := .type "tuple") (by rfl) T.tuple (by decide +kernel) rfl) pa_nil)))))
        (pw_or (pt_cmpR op_ne (pe_callB call_len_seq (by rfl) T.len PySem.boot_len (pa_cons (pv 2) pa_nil)) pe_int (nomark _))
        (pw_or1 (pt_not (pt_val (pe_callB call_isi (by rfl) T.isi (by decide +kernel) (pa_cons (pe_ix ix_tup (pv 2) pe_int (fun _ _ => rfl)) (pa_cons (pe_bltn (v := .ty "str") (u := .type "str") (by rfl) T.str (by decide +kernel) rfl) pa_nil))))))))) (pss_one (ps_ret pe_bl)) pss_nil) <|
      pss_cons (ps_if (PW.pt (pw_or (pt_cmpR op_ne (pe_ix ix_tup (pv 2) pe_int (fun _ _ => rfl)) (pe_call GN hr1 (by rfl) mN kN bN .nil pass0 (pa_cons (pv 0) pa_nil)) (nomark _))
        (pw_or1 (pt_not (pt_val (pe_callB call_isi (by rfl) T.isi (by decide +kernel) (pa_cons (pe_ix ix_tup (pv 2) pe_int (fun _ _ => rfl)) (pa_cons (pe_bltn (v := .ty "list") (u := .type "list") (by rfl) T.list (by decide +kernel) rfl) pa_nil)))))))) (pss_one (ps_ret pe_bl)) pss_nil) <|
      pss_cons (ps_if (pt_cmpR (op_neNil hr.units0) (pe_lc (own := [("_law_row", 7)]) (g := gName 7) (by rfl) scIsPaper.nd (pi_list (pe_ix ix_tup (pv 2) pe_int (fun _ _ => rfl))) (blkOk_by (own := [("_law_row", 7)]) (N := ["_law_words", "_law_places", "_law_value", "_law_pairs", "_law_many", "_law_one", "_law_other", "_law_row"]) (sc := defScope sIsPaper) (by decide +kernel)) (fun _ _ _ _ _ => pg_name (i := 7) scIsPaper.nd rfl (Or.inl rfl))
            (fun _ _ _ _ _ => pts_one (pt_not (pt_val (pe_call GW hr (by rfl) mW kW bW .nil pass0 (pa_cons (pv 0) (pa_cons (pv 1) (pa_cons (pv 7) pa_nil))))))) (fun _ _ _ _ _ => pv 7)) (pe_lst pa_nil) (nomark _)) (pss_one (ps_ret pe_bl)) pss_nil) <|
      pss_cons (ps_setLc (i := 3) (own := [("_law_row", 7)]) (g := gName 7) (tt := tYes) (te := tSl (rSlA K) (tVar 7) tNoPart (tPart (tC (.int 2)))) (by rfl) scIsPaper.nd rfl rfl (sw_true rfl rfl rfl (by decide +kernel)) (pi_list (pe_ix ix_tup (pv 2) pe_int (fun _ _ => rfl))) (blkOk_by (own := [("_law_row", 7)]) (N := ["_law_words", "_law_places", "_law_value", "_law_pairs", "_law_many", "_law_one", "_law_other", "_law_row"]) (sc := defScope sIsPaper) (by decide +kernel)) (fun _ _ _ _ _ => pg_name (i := 7) scIsPaper.nd rfl (Or.inl rfl)) (fun _ _ _ _ _ => pts_nil)
            (fun _ _ _ _ _ => by exact pe_slice sl_tupA (pv 7) po_none (po_some pe_int))) <|
      pss_cons (ps_for PassesOwn.never rfl (pi_range2 (by rfl) T.range (pa_cons pe_int (pa_cons (pe_op op_add (pv 1) pe_int) pa_nil))) (pg_name (i := 4) scIsPaper.nd rfl (Or.inl rfl))
        (pss_one (ps_for PassesOwn.never rfl (pi_list (pe_call GL hr (by rfl) mL kL bL .nil pass0 (pa_cons (pe_ix ix_list (pv 0) pe_int (fun _ _ => rfl)) (pa_cons (pv 4) pa_nil)))) (pg_name (i := 5) scIsPaper.nd rfl (Or.inl rfl))
          (pss_one (ps_for PassesOwn.never rfl (pi_list (pe_call GL hr (by rfl) mL kL bL .nil pass0 (pa_cons (pe_ix ix_list (pv 0) pe_int (fun _ _ => rfl)) (pa_cons (pv 4) pa_nil)))) (pg_name (i := 6) scIsPaper.nd rfl (Or.inl rfl))
            (pss_one (ps_if (PW.pt (pw_and (pt_cmpR (op_notInD hu65) (pe_tup (pa_cons (pv 5) (pa_cons (pv 6) pa_nil))) (pv 3) (by rfl)) (pw_and1 (pt_cmpR (op_notInD hu65) (pe_tup (pa_cons (pv 6) (pa_cons (pv 5) pa_nil))) (pv 3) (by rfl))))) (pss_one (ps_ret pe_bl)) pss_nil))))))) <|
      pss_one (ps_ret pe_bl), ?_⟩
    have q0 := q H (Same.refl H)
    have fls : paperV wd n z = false → ∀ H', Same H H' → Q (.bl false) H' := fun e H' s' => by
      have := q H' s'
      rw [e] at this
      exact this
    cases z with
    | no =>
      rcases hv with hv | ⟨p, xs, rfl, hp, hne⟩
      · obtain ⟨t, ty, kt⟩ := hv.noT (K := K)
        exact ⟨_, rfl, _, _, _, _, false, rfl, .ty "tuple", ty, kit_ty kt, false, rfl, iteT q0⟩
      · refine ⟨_, rfl, _, _, _, _, true, rfl, .ty "tuple", sqT_ty hp, kit_ty (by decide +kernel), true, rfl, iteF ?_⟩
        refine ⟨_, rfl, p, _, rfl, .inr hp, rfl, _, rfl, ?_⟩
        rw [decide_eq_false (show ¬ (V.int ((xs.length : Nat) : Int) = V.int 2) from fun e => by injection e with e; omega)]
        exact iteT q0
    | two z rs =>
      obtain ⟨p, x, y, rfl, hp, hz, hrs⟩ := hv
      refine ⟨_, rfl, _, _, _, _, true, rfl, .ty "tuple", sqT_ty hp, kit_ty (by decide +kernel), true, rfl, iteF ?_⟩
      refine ⟨_, rfl, p, _, rfl, .inr hp, rfl, _, rfl, iteF ?_⟩
      cases z with
      | none =>
        rcases hz with rfl | ⟨i, rfl⟩
        · exact ⟨_, rfl, p, _, 0, _, rfl, rfl, hp, atI_nat (j := 0) rfl, _, _, _, _, false, rfl, .ty "str", .base .non, kit_ty (by decide +kernel), false, rfl, iteT q0⟩
        · exact ⟨_, rfl, p, _, 0, _, rfl, rfl, hp, atI_nat (j := 0) rfl, _, _, _, _, false, rfl, .ty "str", .base (.int i), kit_ty (by decide +kernel), false, rfl, iteT q0⟩
      | some z =>
        obtain rfl : x = .str z := hz
        refine ⟨_, rfl, p, _, 0, _, rfl, rfl, hp, atI_nat (j := 0) rfl, _, _, _, _, true, rfl, .ty "str", .base (.str z), kit_ty (by decide +kernel), true, rfl, iteF ?_⟩
        refine ⟨_, rfl, p, _, 0, _, rfl, rfl, hp, atI_nat (j := 0) rfl, _, rfl, l, wd, rfl, SqL.of hl, hok, fun H1 s1 => ?_⟩
        refine ⟨by cases reasonW wd <;> rfl, _, rfl, ?_⟩
        have hc : decide (V.str z = optV (reasonW wd)) = decide (reasonW wd = some z) := by
          cases reasonW wd with
          | none => rfl
          | some r =>
            rw [decide_eq_decide]
            exact ⟨fun e => by injection e with e; rw [e], fun e => by rw [Option.some.inj e]; rfl⟩
        rw [hc]
        by_cases hw : reasonW wd = some z
        · rw [decide_eq_true hw]
          refine iteF ?_
          cases rs with
          | none =>
            have q1 := fls rfl H1 s1
            rcases hrs with rfl | ⟨q1', xs, rfl, hq⟩
            · exact ⟨_, rfl, p, _, 1, _, rfl, rfl, sqT_same hp s1, atI_nat (j := 1) rfl, _, _, _, _, false, rfl, .ty "list", .base .non, kit_ty (by decide +kernel), false, rfl, iteT q1⟩
            · exact ⟨_, rfl, p, _, 1, _, rfl, rfl, sqT_same hp s1, atI_nat (j := 1) rfl, _, _, _, _, false, rfl, .ty "list", sqT_ty (sqT_same hq s1), kit_ty (by decide +kernel), false, rfl, iteT q1⟩
          | some rs =>
            obtain ⟨y0, vs, rfl, hy, hlen, hR, hO⟩ := hrs
            have hq : ∀ H', Same H H' → Q (.bl (paperL wd.o n rs)) H' := fun H' s' => by
              have := q H' s'
              have e : paperV wd n (.two (some z) (some rs)) = paperL wd.o n rs := by
                show (decide (reasonW wd = some z) && _) = _
                rw [hw, decide_eq_true rfl, Bool.true_and]
              rw [e] at this
              exact this
            clear fls q0 q
            refine ⟨_, rfl, p, _, 1, _, rfl, rfl, sqT_same hp s1, atI_nat (j := 1) rfl, _, _, _, _, true, rfl, .ty "list", .base (.lst (s1 _ _ hy)), kit_ty (by decide +kernel), true, rfl, iteF ?_⟩
            refine ⟨_, rfl, p, _, 1, _, rfl, rfl, sqT_same hp s1, atI_nat (j := 1) rfl, y0, rfl, ⟨_, SqL.of (s1 _ _ hy)⟩, fun D nD => ?_⟩
            have sD := same_new (o := .lst []) nD
            refine lc_list (K := K) (a := y0) (xs := vs) (fun i H' => Same H1 H' ∧ ∃ acc, H' D = some (.lst acc) ∧ acc.length ≤ i ∧ acc.isEmpty = (rs.take i).all (rowL wd.o n)) ⟨sD, [], upd_same, Nat.le_refl _, rfl⟩ (fun i H' _ h => SqL.of (h.1 _ _ (s1 _ _ hy))) ?_ ?_
            · rintro i u H2 hu ⟨s2, acc, hD, hal, hae⟩
              obtain ⟨r, hr1, hr2⟩ := hR.2 i u hu
              refine ⟨rfl, ?_⟩
              refine ⟨_, rfl, _, rfl, _, rfl, l, wd, n, u, r, rfl, (s1.trans s2) _ _ hl, hn, hr2.same (s1.trans s2), fun H3 s3 => ⟨_, rfl, ?_⟩⟩
              have e1 : (rs.take (i + 1)).all (rowL wd.o n) = ((rs.take i).all (rowL wd.o n) && rowL wd.o n r) := by
                rw [List.take_add_one, hr1, Option.toList_some, List.all_append]
                show (_ && (rowL wd.o n r && true)) = _
                rw [Bool.and_true]
              cases hrl : rowL wd.o n r with
              | true =>
                refine iteF ⟨s2.trans s3, acc, s3 _ _ hD, by omega, ?_⟩
                rw [e1, hrl, Bool.and_true]
                exact hae
              | false =>
                refine iteT ⟨_, rfl, acc, s3 _ _ hD, small5 (by have := (List.getElem?_eq_some_iff.mp hu).1; omega), same_upd (s2.trans s3) nD, _, upd_same, ?_, ?_⟩
                · rw [List.length_append]
                  exact Nat.succ_le_succ hal
                · rw [e1, hrl, Bool.and_false]
                  cases acc <;> rfl
            rintro H2 ⟨s2, acc, hD, _, hae⟩
            rw [hR.1, List.take_length] at hae
            refine ⟨by show 0 ≤ sizeLine; decide, fun z0 nz => ?_⟩
            have sz := same_new (o := .lst []) nz
            refine ⟨D, z0, acc, rfl, rfl, SqL.of (sz _ _ hD), SqL.of upd_same, _, rfl, ?_⟩
            rw [hae]
            have s3 := (s1.trans s2).trans sz
            by_cases hall : rs.all (rowL wd.o n) = true
            · rw [hall]
              refine iteF ?_
              have hpl : paperL wd.o n rs = coverL wd.o n rs := by
                unfold paperL
                rw [hall, Bool.true_and]
              rw [hpl] at hq
              revert s3
              generalize upd H2 z0 (.lst []) = H4
              intro s4
              have hall' : ∀ r ∈ rs, rowL wd.o n r = true := List.all_eq_true.mp hall
              refine ⟨_, rfl, p, _, 1, _, rfl, rfl, sqT_same hp s4, atI_nat (j := 1) rfl, y0, rfl, ⟨_, SqL.of (s4 _ _ hy)⟩, fun D2 nD2 => ?_⟩
              have nD20 : H D2 = none := none_of s4 nD2
              have hwd : ∀ p ∈ rs.filterMap pairOf, WdOk p := by
                intro p hp
                obtain ⟨r, hr1, hr2⟩ := List.mem_filterMap.mp hp
                obtain ⟨a, b, i, rfl⟩ := rowL_tri (hall' r hr1)
                cases hr2
                exact ⟨(hO _ hr1).1 a rfl, (hO _ hr1).2 b rfl⟩
              have fm : ∀ {i : Nat} {r : RV} {pr : List Str × List Str}, rs[i]? = some r → pairOf r = some pr → (rs.take (i + 1)).filterMap pairOf = (rs.take i).filterMap pairOf ++ [pr] := by
                intro i r pr h1 h2
                rw [List.take_add_one, h1, Option.toList_some, List.filterMap_append]
                congr 1
                rw [List.filterMap_cons, h2]
                rfl
              refine lc_list (K := K) (a := y0) (xs := vs) (fun i H' => Same H H' ∧ ∃ qs : List Addr, H' D2 = some (.lst (qs.map V.ref)) ∧ Lst2 (PairAt K H') qs ((rs.take i).filterMap pairOf)) ⟨s4.trans (same_new nD2), [], upd_same, Lst2.nil⟩ (fun i H' _ h => SqL.of (h.1 _ _ hy)) ?_ ?_
              · rintro i u H5 hu ⟨s5, qs, hD, hQ⟩
                obtain ⟨r, hr1, hr2⟩ := hR.2 i u hu
                obtain ⟨a, b, k, rfl⟩ := rowL_tri (hall' r (List.mem_of_getElem? hr1))
                obtain ⟨t, x1, x2, x3, rfl, ht, h1, h2, h3⟩ := hr2.same s5
                obtain ⟨xa, rfl, ha, _, _⟩ := h1
                obtain ⟨xb, rfl, hb, _, _⟩ := h2
                refine ⟨rfl, ?_⟩
                unfold tYes
                refine iteT ⟨_, rfl, 2, rfl, t, _, rfl, ht, fun wh => ?_, fun _ p2 np2 => ?_⟩
                · have := wh.2
                  rw [show HT.sIx [V.ref xa, V.ref xb, x3].length [V.ref xa, V.ref xb, x3].length (some (2 : Int)) = 2 from HT.sIx_nat _ _ 2] at this
                  cases this
                have ec : cutV [V.ref xa, V.ref xb, x3] none (some 2) = [V.ref xa, V.ref xb] := by
                  unfold cutV
                  rw [HT.sIx_none, show HT.sIx [V.ref xa, V.ref xb, x3].length [V.ref xa, V.ref xb, x3].length (some (2 : Int)) = 2 from HT.sIx_nat _ _ 2]
                  rfl
                rw [ec]
                have sp2 := same_new (o := .tup [V.ref xa, V.ref xb]) np2
                have hD6 := sp2 _ _ hD
                refine ⟨_, hD6, ?_, same_upd (s5.trans sp2) nD20, qs ++ [p2], by rw [upd_same, List.map_append]; rfl, ?_⟩
                · rw [List.length_map, hQ.1]
                  have h1 := List.length_filterMap_le pairOf (rs.take i)
                  have h2 : (rs.take i).length ≤ rs.length := by rw [List.length_take]; exact Nat.min_le_right _ _
                  have h3 := hR.1
                  exact small5 (by omega)
                · rw [fm hr1 rfl]
                  exact ((hQ.imp fun _ _ h => h.same sp2).app (q := p2) (r := (a, b)) ⟨xa, xb, SqT.of upd_same, sqT_same ha sp2, sqT_same hb sp2⟩).imp fun _ _ h => h.lst hD6
              rintro H5 ⟨s5, qs, hD, hQ⟩
              rw [hR.1, List.take_length] at hQ
              have hsh := shaped_pairs hwd
              generalize hpl2 : rs.filterMap pairOf = pl at hQ hsh hwd fm
              have hcv := cover_iff (o := wd.o) (n := n) (rs := rs)
              rw [hpl2] at hcv
              refine ⟨_, rfl, _, _, rfl, rfl, 1, (n : Int) + 1, rfl, ⟨by decide, by decide, by omega, by omega⟩, ?_⟩
              rw [show ((n : Int) + 1 - 1).toNat = n by omega]
              refine for_range (lo := 1) (n := n) (fun i σ H' => ∃ v4 v5 v6, σ = [some (.ref l), some (.int n), some (.ref p), some (.ref D2), v4, v5, v6, none] ∧ Same H5 H' ∧ ∀ k, k < i → ∀ x ∈ shapesL wd.o (k + 1), ∀ y ∈ shapesL wd.o (k + 1), covB pl x y = true) ⟨none, none, none, rfl, Same.refl _, fun k hk => absurd hk (Nat.not_lt_zero k)⟩ ?_ ?_
              · rintro i σ H6 hi ⟨v4, v5, v6, rfl, s6, hi1⟩
                have sh6 := s5.trans s6
                refine ⟨_, rfl, l, _, 0, _, rfl, rfl, SqL.of (sh6 _ _ hl), atI_nat (j := 0) rfl, _, rfl, wd.o, i + 1, (by show [V.str wd.o, V.int (1 + i)] = _; rw [show (1 : Int) + i = ((i + 1 : Nat) : Int) by omega]), by omega, by omega, fun a ps H7 na s7 ha hps => ?_⟩
                refine ⟨a, rfl, ⟨_, SqL.of ha⟩, for_it (walk_list (K := K) (a := a) (xs := ps.map V.ref)) (fun j σ H' => ∃ v5 v6, σ = [some (.ref l), some (.int n), some (.ref p), some (.ref D2), some (.int (1 + i)), v5, v6, none] ∧ Same H7 H' ∧ ∀ m x, m < j → (shapesL wd.o (i + 1))[m]? = some x → ∀ y ∈ shapesL wd.o (i + 1), covB pl x y = true) ⟨v5, v6, rfl, Same.refl _, fun m _ hm => absurd hm (Nat.not_lt_zero m)⟩ (fun j σ H' _ h => by obtain ⟨_, _, _, h, _⟩ := h; exact SqL.of (h _ _ ha)) ?_ ?_⟩
                · rintro j u σ H8 H9 hj ⟨v5, v6, rfl, s8, hj1⟩ ⟨rfl, hu⟩
                  obtain ⟨q1, hq1, rfl⟩ := ref_at hu
                  obtain ⟨x, hx1, hx2⟩ := hps.2 j q1 hq1
                  have sh8 := (sh6.trans s7).trans s8
                  refine ⟨_, rfl, l, _, 0, _, rfl, rfl, SqL.of (sh8 _ _ hl), atI_nat (j := 0) rfl, _, rfl, wd.o, i + 1, (by show [V.str wd.o, V.int (1 + i)] = _; rw [show (1 : Int) + i = ((i + 1 : Nat) : Int) by omega]), by omega, by omega, fun a2 ps2 H10 na2 s10 ha2 hps2 => ?_⟩
                  have hx10 := sqT_same hx2 (s8.trans s10)
                  refine ⟨a2, rfl, ⟨_, SqL.of ha2⟩, for_it (walk_list (K := K) (a := a2) (xs := ps2.map V.ref)) (fun k σ H' => ∃ v6, σ = [some (.ref l), some (.int n), some (.ref p), some (.ref D2), some (.int (1 + i)), some (.ref q1), v6, none] ∧ Same H10 H' ∧ ∀ m y, m < k → (shapesL wd.o (i + 1))[m]? = some y → covB pl x y = true) ⟨v6, rfl, Same.refl _, fun m _ hm => absurd hm (Nat.not_lt_zero m)⟩ (fun j σ H' _ h => by obtain ⟨_, _, h, _⟩ := h; exact SqL.of (h _ _ ha2)) ?_ ?_⟩
                  · rintro k u σ H11 H12 hk ⟨v6, rfl, s11, hk1⟩ ⟨rfl, hu⟩
                    obtain ⟨q2, hq2, rfl⟩ := ref_at hu
                    obtain ⟨y, hy1, hy2⟩ := hps2.2 k q2 hq2
                    have sh12 := ((s6.trans s7).trans s8).trans (s10.trans s11)
                    have hxw : WdOk (x, y) := ⟨(shapes_mem.mp (List.mem_of_getElem? hx1)).1.2, (shapes_mem.mp (List.mem_of_getElem? hy1)).1.2⟩
                    have dl : ∀ {H' : Hp}, Same H5 H' → Dp K H' (.ref D2) (.list (pl.map pairD)) := fun s' => .lst (SqL.of (s' _ _ hD)) (dp_pairs _ _ (hQ.imp fun _ _ h => h.same s'))
                    refine ⟨_, rfl, _, rfl, by show 2 ≤ sizeLine; decide, fun t1 nt1 => ⟨_, rfl, ?_⟩⟩
                    have st1 := same_new (o := .tup [V.ref q1, V.ref q2]) nt1
                    refine ⟨pairD (x, y), _, .tup (SqT.of upd_same) (.cons (dp_row (sqT_same hx10 (s11.trans st1))) (.cons (dp_row (sqT_same hy2 (s11.trans st1))) .nil)), dl (sh12.trans st1), lay_pair hxw.1 hxw.2, hsh, _, rfl, ?_⟩
                    rw [any_pairs]
                    have fin : ∀ {H' : Hp}, covB pl x y = true → Same H10 H' → ∃ v6, [some (V.ref l), some (V.int n), some (V.ref p), some (V.ref D2), some (V.int (1 + i)), some (V.ref q1), some (V.ref q2), none] = [some (.ref l), some (.int n), some (.ref p), some (.ref D2), some (.int (1 + i)), some (.ref q1), v6, none] ∧ Same H10 H' ∧ ∀ m y, m < k + 1 → (shapesL wd.o (i + 1))[m]? = some y → covB pl x y = true := by
                      intro H' hc s'
                      refine ⟨_, rfl, s', fun m y' hm hy' => ?_⟩
                      by_cases e : m = k
                      · rw [e, hy1] at hy'
                        cases hy'
                        exact hc
                      · exact hk1 m y' (by omega) hy'
                    cases hc1 : (pl.any fun z => decide (z = (x, y))) with
                    | true => exact iteF (fin (by unfold covB; rw [hc1, Bool.true_or]) (s11.trans st1))
                    | false =>
                      refine iteT ⟨_, rfl, _, rfl, by show 2 ≤ sizeLine; decide, fun t2 nt2 => ⟨_, rfl, ?_⟩⟩
                      have st2 := same_new (o := .tup [V.ref q2, V.ref q1]) nt2
                      refine ⟨pairD (y, x), _, .tup (SqT.of upd_same) (.cons (dp_row (sqT_same hy2 ((s11.trans st1).trans st2))) (.cons (dp_row (sqT_same hx10 ((s11.trans st1).trans st2))) .nil)), dl ((sh12.trans st1).trans st2), lay_pair hxw.2 hxw.1, hsh, _, rfl, ?_⟩
                      rw [any_pairs]
                      cases hc2 : (pl.any fun z => decide (z = (y, x))) with
                      | true => exact iteF (fin (by unfold covB; rw [hc2, Bool.or_true]) ((s11.trans st1).trans st2))
                      | false =>
                        have e : coverL wd.o n rs = false := by
                          rw [Bool.eq_false_iff]
                          intro h
                          have := hcv.mp h i hi x (List.mem_of_getElem? hx1) y (List.mem_of_getElem? hy1)
                          unfold covB at this
                          rw [hc1, hc2] at this
                          cases this
                        have q1 := hq _ (s5.trans ((sh12.trans st1).trans st2))
                        rw [e] at q1
                        exact iteT q1
                  · rintro σ H11 ⟨v6, rfl, s11, hk1⟩
                    refine ⟨_, _, rfl, s8.trans (s10.trans s11), fun m x' hm hx' => ?_⟩
                    by_cases e : m = j
                    · rw [e, hx1] at hx'
                      cases hx'
                      intro y hy
                      obtain ⟨m2, hm2⟩ := List.mem_iff_getElem?.mp hy
                      refine hk1 m2 y ?_ hm2
                      rw [List.length_map, hps2.1]
                      exact (List.getElem?_eq_some_iff.mp hm2).1
                    · exact hj1 m x' (by omega) hx'
                · rintro σ H8 ⟨v5, v6, rfl, s8, hj1⟩
                  refine ⟨_, _, _, rfl, (s6.trans s7).trans s8, fun k hk => ?_⟩
                  by_cases e : k = i
                  · subst e
                    intro x hx
                    obtain ⟨m, hm⟩ := List.mem_iff_getElem?.mp hx
                    refine hj1 m x ?_ hm
                    rw [List.length_map, hps.1]
                    exact (List.getElem?_eq_some_iff.mp hm).1
                  · exact hi1 k (by omega)
              · rintro σ H6 ⟨v4, v5, v6, rfl, s6, hi1⟩
                have q1 := hq _ (s5.trans s6)
                rw [hcv.mpr hi1] at q1
                exact q1
            · rw [Bool.not_eq_true] at hall
              rw [hall]
              have e : paperL wd.o n rs = false := by
                unfold paperL
                rw [hall, Bool.false_and]
              have q1 := hq _ s3
              rw [e] at q1
              exact iteT q1
        · rw [decide_eq_false hw]
          refine iteT (fls ?_ _ s1)
          cases rs with
          | none => rfl
          | some rs =>
            show (decide (reasonW wd = some z) && _) = false
            rw [decide_eq_false hw, Bool.false_and]
end
end K1
namespace K1
open PySem PySem.Spec PyProof.Rows L2 Bk
theorem scHandR : FnScope ["_law_pool", "_law_words", "_law_places", "_law_rows", "_law_many", "_law_some", "_law_at", "_law_other", "_law_found", "_law_row"] ["_law_pool", "_law_words", "_law_places"] (defScope sHandR) := ⟨rfl, rfl, rfl, by decide +kernel, rfl, by decide +kernel, by decide +kernel⟩
def Good (r : RV) : Prop := ∃ a b i, r = .tri (some a) (some b) (some i) ∧ 1 ≤ a.length ∧ a.length ≤ 3 ∧ a.length = b.length ∧ (∀ w ∈ a, w ∈ shW) ∧ (∀ w ∈ b, w ∈ shW) ∧ 0 ≤ i ∧ i ≤ 3
theorem Good.ok {r : RV} (h : Good r) : shOk r := by
  obtain ⟨a, b, i, rfl, _, _, _, h1, h2, _⟩ := h
  exact ⟨fun r e => by cases e; exact h1, fun r e => by cases e; exact h2⟩
/-- rows stand in the list at r -/
structure HR (K : PySem.W.Frag) (p r : Addr) (B : Nat) (H : Hp) (H' : Hp) : Prop where
  k : KeepP p H H'
  po : Pool H' p
  ro : ∃ vs rvs, H' r = some (.lst vs) ∧ Lst2 (RowAt K H') vs rvs ∧ (∀ v ∈ rvs, Good v) ∧ vs.length ≤ B
section
variable {K : PySem.W.Frag} {p r : Addr} {B : Nat} {H H1 H2 : Hp}
theorem HR.keep (h : HR K p r B H H1) (rp : r ≠ p) (k : KeepP p H1 H2) (hp : Pool H2 p) : HR K p r B H H2 := ⟨h.k.trans k, hp, let ⟨vs, rvs, a, b, c, d⟩ := h.ro; ⟨vs, rvs, k _ _ rp a, b.imp fun _ _ x => x.keep k h.po hp, c, d⟩⟩
theorem HR.same (h : HR K p r B H H1) (s : Same H1 H2) : HR K p r B H H2 := ⟨h.k.trans (KeepP.same s), h.po.same s, let ⟨vs, rvs, a, b, c, d⟩ := h.ro; ⟨vs, rvs, s _ _ a, b.imp fun _ _ x => x.same s, c, d⟩⟩
theorem HR.mono {B' : Nat} (h : HR K p r B H H1) (hb : B ≤ B') : HR K p r B' H H1 := ⟨h.k, h.po, let ⟨vs, rvs, a, b, c, d⟩ := h.ro; ⟨vs, rvs, a, b, c, Nat.le_trans d hb⟩⟩
theorem keepP_updN {q : Addr} {o : HO} (k : KeepP p H H1) (n : H q = none) : KeepP p H (upd H1 q o) := fun b x nb e => by
  rw [upd_ne (ne_of_none e n)]
  exact k b x nb e
theorem pool_upd {q : Addr} {o : HO} (h : Pool H1 p) (n : q ≠ p) : Pool (upd H1 q o) p := let ⟨g, z, e, x⟩ := h; ⟨g, z, by rw [upd_ne n.symm]; exact e, x⟩
theorem HR.app {vs : List V} {v : V} {rv : RV} {rvs : List RV} (k : KeepP p H H1) (po : Pool H1 p) (rp : r ≠ p) (nr : H r = none) (a : H1 r = some (.lst vs)) (b : Lst2 (RowAt K H1) vs rvs) (c : ∀ v ∈ rvs, Good v) (d : vs.length ≤ B) (hv : RowAt K H1 v rv) (g : Good rv) : HR K p r (B + 1) H (upd H1 r (.lst (vs ++ [v]))) := by
  refine ⟨keepP_updN k nr, pool_upd po rp, vs ++ [v], rvs ++ [rv], upd_same, (b.app hv).imp fun _ _ x => x.lst a, fun x hx => ?_, ?_⟩
  · rcases List.mem_append.mp hx with h | h
    · exact c x h
    · rw [List.mem_singleton.mp h]
      exact g
  · rw [List.length_append]
    exact Nat.succ_le_succ d
end
def spHand (K : PySem.W.Frag) : Sp := fun vs H Q _ => ∃ (p l : Addr) (wd : Wds) (n : Nat), vs = [.ref p, .ref l, .int (n : Int)] ∧ Pool H p ∧ H l = some (.lst (wd.list.map V.str)) ∧ l ≠ p ∧ n ≤ 3 ∧ ∀ (r : Addr) (H' : Hp), H r = none → r ≠ p → HR K p r 2200 H H' → Q (.ref r) H'
theorem cut_take2 (xs : List V) (j : Int) (h : 0 ≤ j) : cutV xs none (some j) = xs.take j.toNat := by
  obtain ⟨k, rfl⟩ := Int.eq_ofNat_of_zero_le h
  exact cut_take xs k
section
variable {P : Program} {w : World} {K : PySem.W.Frag} {mg : Str → Option Value} {base : Heap} {CB CE CP : Addr}
theorem ok_hand {f fT fL fA : Addr} {fd fdT fdL fdA : FuncData} (F : Fun K "_law_hand_rows" "_law_hand_rows" sHandR f fd) (T : Tx mg)
    (mT : mg "_law_take" = some (.ref fT)) (kT : PySem.W.keepIn K (.ref fT) = true) (bT : Binds K fdT ["_law_pool", "_law_many"] []) (GT : FnOk P w K mg base CX0 1 fT fdT ["_law_pool", "_law_many"] spTake)
    (mL : mg "_law_shapes" = some (.ref fL)) (kL : PySem.W.keepIn K (.ref fL) = true) (bL : Binds K fdL ["_law_owning", "_law_places"] []) (GL : FnOk P w K mg base CX0 2 fL fdL ["_law_owning", "_law_places"] (spLShapes K))
    (mA : mg "_law_places_apart" = some (.ref fA)) (kA : PySem.W.keepIn K (.ref fA) = true) (bA : Binds K fdA ["_law_one", "_law_other"] []) (GA : FnOk P w K mg base CX0 1 fA fdA ["_law_one", "_law_other"] (spPlA K)) :
    FnOk P w K mg base CX0 3 f fd ["_law_pool", "_law_words", "_law_places"] (spHand K) := by
  refine F.ok scHandR (fun vs H Q E h => ?_) (fun cdv A outer s H vs Q E hr h => ?_)
  · obtain ⟨p, l, wd, n, rfl, _⟩ := h
    rfl
  · obtain ⟨p, l, wd, n, rfl, hpo, hl, lp, hn, q⟩ := h
    have hr1 : Room 1 _ := hr.mono (by decide)
    refine ⟨_, pss_cons (ps_set (i := 3) scHandR.nd rfl (Or.inl rfl) (pe_lst pa_nil)) <|
      pss_cons (ps_for PassesOwn.never rfl (pi_range2 (by rfl) T.range (pa_cons pe_int (pa_cons (pe_op op_add (pv 2) pe_int) pa_nil))) (pg_name (i := 4) scHandR.nd rfl (Or.inl rfl))
        (pss_cons (ps_set (i := 5) scHandR.nd rfl (Or.inl rfl) (pe_call GL hr (by rfl) mL kL bL .nil pass0 (pa_cons (pe_ix ix_list (pv 1) pe_int (fun _ _ => rfl)) (pa_cons (pv 4) pa_nil)))) <|
        pss_one (ps_for PassesOwn.never rfl (pi_range1 (by rfl) T.range (pa_cons (pe_callB call_len_seq (by rfl) T.len PySem.boot_len (pa_cons (pv 5) pa_nil)) pa_nil)) (pg_name (i := 6) scHandR.nd rfl (Or.inl rfl))
          (pss_one (ps_for PassesOwn.never rfl (pi_list (pe_slice sl_list (pv 5) po_none (po_some (pe_op op_add (pv 6) pe_int)))) (pg_name (i := 7) scHandR.nd rfl (Or.inl rfl))
            (pss_cons (ps_set (i := 8) scHandR.nd rfl (Or.inl rfl) (pe_op op_cat (pe_call GA hr1 (by rfl) mA kA bA .nil pass0 (pa_cons (pe_ix ix_list (pv 5) (pv 6) (fun _ _ => rfl)) (pa_cons (pv 7) pa_nil))) (pe_lst (pa_cons pe_int pa_nil)))) <|
            pss_cons (ps_set (i := 9) scHandR.nd rfl (Or.inl rfl) (pe_tup (pa_cons (pe_ix ix_list (pv 5) (pv 6) (fun _ _ => rfl)) (pa_cons (pv 7) (pa_cons (pe_ix ix_list (pv 8) (pe_ifExp (pt_cmpR op_gt (pe_call GT hr1 (by rfl) mT kT bT .nil pass0 (pa_cons (pv 0) (pa_cons pe_int pa_nil))) pe_int (nomark _)) pe_int (pe_op op_fdiv (pe_callB call_len_seq (by rfl) T.len PySem.boot_len (pa_cons (pv 8) pa_nil)) pe_int)) (fun _ _ => rfl)) pa_nil))))) <|
            pss_one (ps_expr (pe_bm PySem.F.plainAttrs_list PySem.F.slot_list_append PySem.F.type_list_append mt_append (pv 3) (pa_cons (pe_ifExp (pt_cmpR op_eq (pe_call GT hr1 (by rfl) mT kT bT .nil pass0 (pa_cons (pv 0) (pa_cons pe_int pa_nil))) pe_int (nomark _)) (pv 9) (pe_tup (pa_cons (pv 7) (pa_cons (pe_ix ix_list (pv 5) (pv 6) (fun _ _ => rfl)) (pa_cons (pe_ix ix_tup (pv 9) pe_int (fun _ _ => rfl)) pa_nil))))) pa_nil))))))))) <|
      pss_one (ps_ret (pv 3)), ?_⟩
    refine ⟨by show 0 ≤ sizeLine; decide, fun r nr => ?_⟩
    have rp : r ≠ p := ne_pool hpo nr
    have h0 : HR K p r 0 H (upd H r (.lst [])) := ⟨KeepP.new nr, hpo.same (same_new nr), [], [], upd_same, Lst2.nil, (fun _ h => by cases h), Nat.le_refl _⟩
    refine ⟨_, rfl, _, _, rfl, rfl, 1, (n : Int) + 1, rfl, ⟨by decide, by decide, by omega, by omega⟩, ?_⟩
    rw [show ((n : Int) + 1 - 1).toNat = n by omega]
    refine for_range (lo := 1) (n := n) (fun i σ H' => ∃ v4 v5 v6 v7 v8 v9, σ = [some (.ref p), some (.ref l), some (.int n), some (.ref r), v4, v5, v6, v7, v8, v9] ∧ HR K p r (730 * i) H H') ⟨_, _, _, _, _, _, rfl, h0⟩ ?_ ?_
    · rintro i σ H1 hi ⟨v4, v5, v6, v7, v8, v9, rfl, hR1⟩
      refine ⟨_, rfl, l, _, 0, _, rfl, rfl, SqL.of (hR1.k _ _ lp hl), atI_nat (j := 0) rfl, _, rfl, wd.o, i + 1, (by show [V.str wd.o, V.int (1 + i)] = _; rw [show (1 : Int) + i = ((i + 1 : Nat) : Int) by omega]), by omega, by omega, fun a ps H2 na s2 ha hps => ?_⟩
      have hlenS := shapes_small (o := wd.o) (n := i + 1) (by omega)
      have ap : a ≠ p := ne_pool hR1.po na
      have ar : r ≠ a := by
        obtain ⟨vs, _, e, _⟩ := hR1.ro
        exact ne_of_none e na
      have hpl := hps.1
      refine ⟨_, rfl, a, _, rfl, .inl (SqL.of ha), _, rfl, by omega, by rw [List.length_map]; omega, ?_⟩
      rw [show (((ps.map V.ref).length : Nat) : Int).toNat = ps.length by rw [List.length_map]; rfl]
      refine for_range (lo := 0) (n := ps.length) (fun j σ H' => ∃ v6 v7 v8 v9, σ = [some (.ref p), some (.ref l), some (.int n), some (.ref r), some (.int (1 + i)), some (.ref a), v6, v7, v8, v9] ∧ HR K p r (730 * i + 27 * j) H H' ∧ H' a = some (.lst (ps.map V.ref)) ∧ Lst2 (TQ K H') ps (shapesL wd.o (i + 1))) ⟨_, _, _, _, rfl, hR1.same s2, ha, hps⟩ ?_ ?_
      · rintro j σ H3 hj ⟨v6, v7, v8, v9, rfl, hR3, ha3, hps3⟩
        refine ⟨_, rfl, _, rfl, _, _, rfl, rfl, _, rfl, a, _, rfl, SqL.of ha3, fun c nc => ?_⟩
        rw [cut_take2 _ _ (by omega), show ((0 : Int) + j + 1).toNat = j + 1 by omega, ← List.map_take]
        have cp : c ≠ p := ne_pool hR3.po nc
        have cr : r ≠ c := by
          obtain ⟨vs, _, e, _⟩ := hR3.ro
          exact ne_of_none e nc
        have sc := same_new (o := .lst ((ps.take (j + 1)).map V.ref)) nc
        have hlt : ((ps.take (j + 1)).map V.ref).length ≤ 27 := by
          rw [List.length_map, List.length_take]
          omega
        refine ⟨c, rfl, ⟨_, SqL.of upd_same⟩, for_it (walk_list (K := K) (a := c) (xs := (ps.take (j + 1)).map V.ref)) (fun k σ H' => ∃ v7 v8 v9, σ = [some (.ref p), some (.ref l), some (.int n), some (.ref r), some (.int (1 + i)), some (.ref a), some (.int (0 + j)), v7, v8, v9] ∧ HR K p r (730 * i + 27 * j + k) H H' ∧ H' a = some (.lst (ps.map V.ref)) ∧ Lst2 (TQ K H') ps (shapesL wd.o (i + 1)) ∧ H' c = some (.lst ((ps.take (j + 1)).map V.ref))) ⟨_, _, _, rfl, hR3.same sc, sc _ _ ha3, hps3.tq sc, upd_same⟩ (fun k σ H' _ h => by obtain ⟨_, _, _, _, _, _, _, h⟩ := h; exact SqL.of h) ?_ ?_⟩
        · rintro k u σ H4 H5 hk ⟨v7, v8, v9, rfl, hR4, ha4, hps4, hc4⟩ ⟨rfl, hu⟩
          obtain ⟨q2, hq2, rfl⟩ := ref_at hu
          rw [List.getElem?_take] at hq2
          have hq2' : ps[k]? = some q2 := by
            split at hq2
            · exact hq2
            · cases hq2
          obtain ⟨y, hy1, hy2⟩ := hps4.2 k q2 hq2'
          have hjp : ps[j]? = some ps[j] := List.getElem?_eq_getElem hj
          obtain ⟨x, hx1, hx2⟩ := hps4.2 j _ hjp
          generalize ps[j] = q1 at hjp hx2
          have hA : (ps.map V.ref)[j]? = some (V.ref q1) := by rw [List.getElem?_map, hjp]; rfl
          have wx := (shapes_mem.mp (List.mem_of_getElem? hx1)).1
          have wy := (shapes_mem.mp (List.mem_of_getElem? hy1)).1
          refine ⟨_, rfl, _, rfl, a, _, (j : Int), _, rfl, congrArg V.int (Int.zero_add _), SqL.of ha4, atI_nat hA, _, rfl, q1, q2, x, y, rfl, hx2, hy2, by omega, by omega, wx.2, wy.2, fun m H6 nm s6 hm => ?_⟩
          refine ⟨by show 1 ≤ sizeLine; decide, fun z0 nz => ?_⟩
          have sz := same_new (o := .lst [V.int 0]) nz
          have hm7 := sz _ _ hm
          refine ⟨m, z0, _, _, rfl, rfl, hm7, upd_same, ?_, fun f nf => ?_⟩
          · unfold natV
            rw [List.length_map]
            have h1 : (plA x y).length ≤ (List.range x.length).length := List.length_filter_le _ _
            rw [List.length_range] at h1
            exact Nat.le_of_lt (small1000 (by show (plA x y).length + 1 ≤ 1000; omega))
          have sf := same_new (o := .lst (natV (plA x y) ++ [V.int 0])) nf
          have s7 : Same _ _ := (s6.trans sz).trans sf
          have hf : (upd (upd H6 z0 (.lst [V.int 0])) f (.lst (natV (plA x y) ++ [V.int 0]))) f = some (.lst (natV (plA x y) ++ [V.int 0])) := upd_same
          have hR7 := hR4.same s7
          have ha7 := s7 _ _ ha4
          have hps7 := hps4.tq s7
          have hc7 := s7 _ _ hc4
          have fp : f ≠ p := ne_pool (hR4.same (s6.trans sz)).po nf
          revert s7 hf hR7 ha7 hps7 hc7
          generalize upd (upd H6 z0 (.lst [V.int 0])) f (.lst (natV (plA x y) ++ [V.int 0])) = H7
          intro s7 hf hR7 ha7 hps7 hc7
          have fnd : ∀ idx : Nat, idx < (natV (plA x y) ++ [V.int 0]).length → ∃ e : Int, 0 ≤ e ∧ e ≤ 3 ∧ (natV (plA x y) ++ [V.int 0])[idx]? = some (V.int e) := by
            intro idx hidx
            have hmem := List.getElem_mem hidx
            rw [List.getElem?_eq_getElem hidx]
            rcases List.mem_append.mp hmem with h | h
            · obtain ⟨j', hj', e'⟩ := List.mem_map.mp (show _ ∈ (plA x y).map fun (j : Nat) => V.int (j : Int) from h)
              have := List.mem_range.mp (List.mem_filter.mp hj').1
              exact ⟨(j' : Int), by omega, by omega, congrArg some e'.symm⟩
            · exact ⟨0, by decide, by decide, by rw [List.mem_singleton.mp h]⟩
          have fin : ∀ {H9 : Hp} {v : V} {rv : RV}, KeepP p H7 H9 → Pool H9 p → RowAt K H9 v rv → Good rv → ∃ xs, H9 r = some (.lst xs) ∧ xs.length < sizeLine ∧ HR K p r (730 * i + 27 * j + (k + 1)) H (upd H9 r (.lst (xs ++ [v]))) ∧ (upd H9 r (.lst (xs ++ [v]))) a = some (.lst (ps.map V.ref)) ∧ Lst2 (TQ K (upd H9 r (.lst (xs ++ [v])))) ps (shapesL wd.o (i + 1)) ∧ (upd H9 r (.lst (xs ++ [v]))) c = some (.lst ((ps.take (j + 1)).map V.ref)) := by
            intro H9 v rv k9 po9 hrow hgood
            have hR9 := hR7.keep rp k9 po9
            obtain ⟨vs, rvs, e1, e2, e3, e4⟩ := hR9.ro
            refine ⟨vs, e1, small5 (by omega), HR.app hR9.k po9 rp nr e1 e2 e3 e4 hrow hgood, ?_, ?_, ?_⟩
            · rw [upd_ne ar.symm]
              exact k9 _ _ ap ha7
            · exact (hps7.imp fun _ _ h => sqT_keep k9 hR7.po h).tl e1
            · rw [upd_ne cr.symm]
              exact k9 _ _ cp hc7
          have l8 : (natV (plA x y) ++ [V.int 0]).length ≤ 100 := by
            unfold natV
            rw [List.length_append, List.length_map]
            have h1 : (plA x y).length ≤ (List.range x.length).length := List.length_filter_le _ _
            rw [List.length_range] at h1
            show _ + 1 ≤ 100
            omega
          have l1 : 0 < (natV (plA x y) ++ [V.int 0]).length := by
            rw [List.length_append]
            exact Nat.succ_pos _
          refine ⟨_, rfl, _, rfl, a, _, (j : Int), _, rfl, congrArg V.int (Int.zero_add _), SqL.of ha7, atI_nat hA, _, rfl, _, rfl, _, rfl, p, 8, rfl, hR7.po, by decide, by decide, fun d H8 d0 d1 hp8 k8 => ?_⟩
          have hf8 := k8 _ _ fp hf
          refine ⟨_, _, rfl, rfl, _, rfl, ?_⟩
          refine ite2 (fun c => ?_) (fun c => ?_)
          case' refine_1 =>
            obtain ⟨e, e0, e3, he⟩ := fnd 0 l1
            refine ⟨f, _, ((0 : Nat) : Int), _, rfl, rfl, SqL.of hf8, atI_nat he, ?_⟩
          case' refine_2 =>
            obtain ⟨e, e0, e3, he⟩ := fnd ((natV (plA x y) ++ [V.int 0]).length / 2) (by omega)
            refine ⟨_, rfl, f, _, rfl, .inl (SqL.of hf8), _, _, rfl, rfl, ⟨by decide, by decide⟩, f, _, (((natV (plA x y) ++ [V.int 0]).length / 2 : Nat) : Int), _, rfl, congrArg V.int (by omega), SqL.of hf8, atI_nat he, ?_⟩
          all_goals
            refine ⟨by show 3 ≤ sizeLine; decide, fun t nt => ?_⟩
            have st := same_new (o := .tup [V.ref q1, V.ref q2, V.int e]) nt
            have hx9 := sqT_same (sqT_keep k8 hR7.po (sqT_same hx2 s7)) st
            have hy9 := sqT_same (sqT_keep k8 hR7.po (sqT_same hy2 s7)) st
            have k9 : KeepP p H7 (upd H8 t (.tup [V.ref q1, V.ref q2, V.int e])) := k8.trans (KeepP.same st)
            have po9 := hp8.same st
            have ht9 : (upd H8 t (.tup [V.ref q1, V.ref q2, V.int e])) t = some (.tup [V.ref q1, V.ref q2, V.int e]) := upd_same
            have tp : t ≠ p := ne_pool hp8 nt
            revert hx9 hy9 k9 po9 ht9
            generalize upd H8 t (.tup [V.ref q1, V.ref q2, V.int e]) = H9
            intro hx9 hy9 k9 po9 ht9
            obtain ⟨vs9, _, e19, _⟩ := (hR7.keep rp k9 po9).ro
            refine ⟨_, rfl, .inl ⟨rfl, _, SqL.of e19⟩, _, rfl, p, 2, rfl, po9, by decide, by decide, fun d2 H10 _ _ hp10 k10 => ⟨rfl, _, rfl, ?_⟩⟩
            have k10' := k9.trans k10
            have hx10 := sqT_keep k10 po9 hx9
            have hy10 := sqT_keep k10 po9 hy9
            have ht10 := k10 _ _ tp ht9
            have gd1 : Good (.tri (some x) (some y) (some e)) := ⟨x, y, e, rfl, by omega, by omega, by omega, wx.2, wy.2, e0, e3⟩
            have gd2 : Good (.tri (some y) (some x) (some e)) := ⟨y, x, e, rfl, by omega, by omega, by omega, wy.2, wx.2, e0, e3⟩
            refine ite2 (fun c => ?_) (fun c => ?_)
            · obtain ⟨xs, f1, f2, f3, f4, f5, f6⟩ := fin k10' hp10 (v := .ref t) (rv := .tri (some x) (some y) (some e)) ⟨t, _, _, _, rfl, SqT.of ht10, ⟨q1, rfl, hx10, by omega, wx.2⟩, ⟨q2, rfl, hy10, by omega, wy.2⟩, rfl⟩ gd1
              exact ⟨_, rfl, r, _, _, rfl, rfl, f1, f2, _, _, _, rfl, f3, f4, f5, f6⟩
            · refine ⟨_, rfl, _, rfl, _, rfl, a, _, (j : Int), _, rfl, congrArg V.int (Int.zero_add _), SqL.of (k10' _ _ ap ha7), atI_nat hA, _, rfl, t, _, 2, _, rfl, rfl, SqT.of ht10, atI_nat (j := 2) rfl, by show 3 ≤ sizeLine; decide, fun t2 nt2 => ?_⟩
              have st2 := same_new (o := .tup [V.ref q2, V.ref q1, V.int e]) nt2
              obtain ⟨xs, f1, f2, f3, f4, f5, f6⟩ := fin (k10'.trans (KeepP.same st2)) (hp10.same st2) (v := .ref t2) (rv := .tri (some y) (some x) (some e)) ⟨t2, _, _, _, rfl, SqT.of upd_same, ⟨q2, rfl, sqT_same hy10 st2, by omega, wy.2⟩, ⟨q1, rfl, sqT_same hx10 st2, by omega, wx.2⟩, rfl⟩ gd2
              exact ⟨r, _, _, rfl, rfl, f1, f2, _, _, _, rfl, f3, f4, f5, f6⟩
        · rintro σ H4 ⟨v7, v8, v9, rfl, hR4, ha4, hps4, hc4⟩
          exact ⟨_, _, _, _, rfl, hR4.mono (by omega), ha4, hps4⟩
      · rintro σ H3 ⟨v6, v7, v8, v9, rfl, hR3, _, _⟩
        exact ⟨_, _, _, _, _, _, rfl, hR3.mono (by omega)⟩
    · rintro σ H1 ⟨v4, v5, v6, v7, v8, v9, rfl, hR1⟩
      exact ⟨_, rfl, q r H1 nr rp (hR1.mono (by omega))⟩
end
end K1
/-! A tuple times one is the tuple itself. -/
namespace Bk
open PySem PySem.Spec PyProof.Rows L2
open AutoSeq1 (wpAny_loadPart')
theorem tup_mul_one (l : Addr) (items : Array Value) (n : Nat) (dd : Option Addr) (sl : Array (Option Value)) (u : Tok) :
    Meets (Builtin.«tuple.__mul__» ⟨[.ref l, .int 1 u], []⟩) (fun _ R s => s.heap.get? l = some { cls := .type "tuple", dict := dd, data := .seq items n, slots := sl } ∧ R (.ok (.ret (Value.ref l))) s) :=
  .of_wp fun prog w A R s h => by
    obtain ⟨hp, g, d, tk, os⟩ := s
    obtain ⟨hl, h⟩ := h
    have f1 := AutoSeq1.idx_int
    wp_walk using wpAny_loadPart' hl
    exact ⟨_, rfl, h⟩
/-- a tuple times one or more -/
def rRepA (K : PySem.W.Frag) : R2 := fun x y H Q => ∃ l k xs, x = .ref l ∧ y = .int k ∧ SqT K H l xs ∧ xs ≠ [] ∧ 1 ≤ k ∧ k ≤ 1000 ∧ xs.length ≤ 1000 ∧ (k = 1 → Q (.ref l) H) ∧ (2 ≤ k → ∀ p, H p = none → Q (.ref p) (upd H p (.tup (List.replicate k.toNat xs).flatten)))
theorem op_repA {X : Cx} : OpR X (binaryOp .Mult) (rRepA X.K) := by
  intro pins s σ H x y v u Q I rx ry h
  obtain ⟨l, k, xs, rfl, rfl, hT, hne, h1, h2, hz, q1, q2⟩ := h
  by_cases hk : k = 1
  · subst hk
    cases rx
    obtain ⟨t, rfl⟩ := ry
    obtain ⟨its, r, ⟨⟨cls, dd, data, sl⟩, ho, hc, n, hd⟩, hs⟩ := I.tuple hT
    simp only at hc hd
    subst hc hd
    exact wpAny_binaryOp_repeat_ref (T := "tuple") (U := "int") (by decide) ⟨_, ho, rfl⟩ (fun s' => typeIs_int s' 1 t) noFill_tuple_mul F.fills_int_mul F.slot_int_rmul repeat_tuple F.slot_int_index.lookup
      (call_meets F.slot_int_rmul (typeIs_int s 1 t) F.entry_int_rmul (F.args_int_rmul_2 _ _) (int_rmul_tuple 1 t l its.toArray n dd sl)
        ⟨ho, rfl, ⟨_, ho, rfl⟩, call_meets F.slot_tuple_mul ⟨_, ho, rfl⟩ F.entry_tuple_mul (F.args_tuple_mul_2 _ _) (tup_mul_one l its.toArray n dd sl t) ⟨ho, ⟨.ref l, H, I, rfl, q1 rfl⟩⟩⟩)
  · exact op_repT pins s σ H _ _ v u Q I rx ry ⟨l, k, xs, rfl, rfl, hT, hne, by omega, h2, hz, q2 (by omega)⟩
end Bk
namespace K1
open PySem PySem.Spec PyProof.Rows L2 Bk
theorem scBent : FnScope ["_law_pool", "_law_rows", "_law_at", "_law_row", "_law_short", "_law_ways", "_law_one"] ["_law_pool", "_law_rows"] (defScope sBentR) := ⟨rfl, rfl, rfl, by decide +kernel, rfl, by decide +kernel, by decide +kernel⟩
section
variable {α β : Type} {P : α → β → Prop} {qs : List α} {rs : List β}
theorem Lst2.take (h : Lst2 P qs rs) (j : Nat) : Lst2 P (qs.take j) (rs.take j) := by
  refine ⟨by rw [List.length_take, List.length_take, h.1], fun i q e => ?_⟩
  rw [List.getElem?_take] at e
  by_cases hi : i < j
  · rw [if_pos hi] at e
    obtain ⟨r, a, b⟩ := h.2 i q e
    exact ⟨r, by rw [List.getElem?_take, if_pos hi]; exact a, b⟩
  · rw [if_neg hi] at e
    cases e
theorem Lst2.drop (h : Lst2 P qs rs) (j : Nat) : Lst2 P (qs.drop j) (rs.drop j) := by
  refine ⟨by rw [List.length_drop, List.length_drop, h.1], fun i q e => ?_⟩
  rw [List.getElem?_drop] at e
  obtain ⟨r, a, b⟩ := h.2 _ q e
  exact ⟨r, by rw [List.getElem?_drop]; exact a, b⟩
theorem Lst2.rev (h : Lst2 P qs rs) : Lst2 P qs.reverse rs.reverse := by
  refine ⟨by rw [List.length_reverse, List.length_reverse, h.1], fun i q e => ?_⟩
  have hi : i < qs.length := by
    have := (List.getElem?_eq_some_iff.mp e).1
    rwa [List.length_reverse] at this
  rw [List.getElem?_reverse hi] at e
  obtain ⟨r, a, b⟩ := h.2 _ q e
  refine ⟨r, ?_, b⟩
  rw [List.getElem?_reverse (by rw [← h.1]; exact hi), ← h.1]
  exact a
theorem Lst2.one {q : α} {r : β} (h : P q r) : Lst2 P [q] [r] := Lst2.app (qs := []) (rs := []) Lst2.nil h
end
/-- rows in a list (none: no list) -/
def RowsAt (K : PySem.W.Frag) (p : Addr) (H : Hp) (v : V) : Option (List RV) → Prop
  | some rs => ∃ l vs, v = .ref l ∧ l ≠ p ∧ H l = some (.lst vs) ∧ vs.length ≤ 3000 ∧ Lst2 (RowAt K H) vs rs ∧ ∀ r ∈ rs, shOk r
  | none => v = .non ∨ ∃ q xs, v = .ref q ∧ H q = some (.tup xs)
section
variable {K : PySem.W.Frag} {p : Addr} {H H' : Hp} {v : V}
theorem RowsAt.same : ∀ {rs : Option (List RV)}, RowsAt K p H v rs → Same H H' → RowsAt K p H' v rs
  | some _, ⟨l, vs, e, n, hl, z, h, o⟩, s => ⟨l, vs, e, n, s _ _ hl, z, h.imp fun _ _ x => x.same s, o⟩
  | none, h, s => h.elim .inl fun ⟨q, xs, e, t⟩ => .inr ⟨q, xs, e, s _ _ t⟩
theorem RowsAt.keep : ∀ {rs : Option (List RV)}, RowsAt K p H v rs → KeepP p H H' → Pool H p → Pool H' p → RowsAt K p H' v rs
  | some _, ⟨l, vs, e, n, hl, z, h, o⟩, k, hp, hp' => ⟨l, vs, e, n, k _ _ n hl, z, h.imp fun _ _ x => x.keep k hp hp', o⟩
  | none, h, k, hp, _ => h.elim .inl fun ⟨q, xs, e, t⟩ => .inr ⟨q, xs, e, k _ _ (fun z => by obtain ⟨_, _, e2, _⟩ := hp; rw [z, e2] at t; cases t) t⟩
theorem RowsAt.lst {D : Addr} {xs ys : List V} : ∀ {rs : Option (List RV)}, RowsAt K p H v rs → H D = some (.lst xs) → v ≠ .ref D → RowsAt K p (upd H D (.lst ys)) v rs
  | some _, ⟨l, vs, e, n, hl, z, h, o⟩, e', nv => ⟨l, vs, e, n, by rw [upd_ne (show l ≠ D from fun x => nv (by rw [e, x]))]; exact hl, z, h.imp fun _ _ x => x.lst e', o⟩
  | none, h, e', _ => h.elim .inl fun ⟨q, xs, e, t⟩ => .inr ⟨q, xs, e, by rw [upd_ne (fun z => by rw [z, e'] at t; cases t)]; exact t⟩
end
/-- the ways at W -/
def WAt (K : PySem.W.Frag) (p W : Addr) (B : Nat) (H0 H : Hp) : Prop := Same H0 H ∧ H0 W = none ∧ ∃ ws, H W = some (.lst ws) ∧ ws.length ≤ B ∧ ∀ x ∈ ws, x ≠ .ref W ∧ ∃ rs, RowsAt K p H x rs
section
variable {K : PySem.W.Frag} {p W : Addr} {B : Nat} {H0 H H' : Hp} {v : V}
theorem WAt.same (h : WAt K p W B H0 H) (s : Same H H') : WAt K p W B H0 H' := let ⟨a, n, ws, b, c, d⟩ := h; ⟨a.trans s, n, ws, s _ _ b, c, fun x hx => ⟨(d x hx).1, let ⟨rs, r⟩ := (d x hx).2; ⟨rs, r.same s⟩⟩⟩
/-- one way more, in the list itself -/
theorem WAt.app {rs : Option (List RV)} (h : WAt K p W B H0 H) (hv : RowsAt K p H v rs) (n : v ≠ .ref W) : ∃ ws, H W = some (.lst ws) ∧ ws.length ≤ B ∧ WAt K p W (B + 1) H0 (upd H W (.lst (ws ++ [v]))) := by
  obtain ⟨a, nw, ws, b, c, d⟩ := h
  refine ⟨ws, b, c, same_upd a nw, nw, ws ++ [v], upd_same, by rw [List.length_append]; exact Nat.succ_le_succ c, fun x hx => ?_⟩
  rcases List.mem_append.mp hx with hx | hx
  · obtain ⟨d1, rs', d2⟩ := d x hx
    exact ⟨d1, rs', d2.lst b d1⟩
  · rw [List.mem_singleton.mp hx]
    exact ⟨n, rs, hv.lst b n⟩
theorem WAt.new {B2 : Nat} {W2 : Addr} {ws zs : List V} (h : WAt K p W B H0 H) (b : H W = some (.lst ws)) (n : H W2 = none) (hl : zs.length ≤ B2) (hz : ∀ x ∈ zs, x ≠ .ref W2 ∧ ∃ rs, RowsAt K p H x rs) : WAt K p W2 (B + B2) H0 (upd H W2 (.lst (ws ++ zs))) := by
  obtain ⟨a, nw, ws', b', c, d⟩ := h
  rw [b] at b'
  cases b'
  have s := same_new (o := .lst (ws ++ zs)) n
  refine ⟨a.trans s, none_of a n, ws ++ zs, upd_same, by rw [List.length_append]; omega, fun x hx => ?_⟩
  rcases List.mem_append.mp hx with hx | hx
  · obtain ⟨d1, rs', d2⟩ := d x hx
    refine ⟨fun e => ?_, rs', d2.same s⟩
    cases rs' with
    | some rs' =>
      obtain ⟨l, vs, e2, _, hl2, _⟩ := d2
      rw [e2] at e
      cases e
      rw [hl2] at n
      cases n
    | none =>
      rcases d2 with d2 | ⟨q, xs, e2, hq⟩
      · rw [d2] at e
        cases e
      · rw [e2] at e
        cases e
        rw [hq] at n
        cases n
  · obtain ⟨d1, rs', d2⟩ := hz x hx
    exact ⟨d1, rs', d2.same s⟩
end
end K1
namespace K1
open PySem PySem.Spec PyProof.Rows L2 Bk
theorem WAt.ne {K : PySem.W.Frag} {p W : Addr} {B : Nat} {H0 H : Hp} (h : WAt K p W B H0 H) {l : Addr} (n : H l = none) : V.ref l ≠ .ref W := fun e => by
  obtain ⟨_, _, ws, b, _⟩ := h
  cases e
  rw [b] at n
  cases n
/-- what the bending holds: the rows, the row at hand -/
structure BC (K : PySem.W.Frag) (p r : Addr) (vs : List V) (rvs : List RV) (t qa qb : Addr) (a b : List Str) (e : Int) (H : Hp) : Prop where
  po : Pool H p
  hr : H r = some (.lst vs)
  hv : Lst2 (RowAt K H) vs rvs
  ht : SqT K H t [.ref qa, .ref qb, .int e]
  ha : TQ K H qa a
  hb : TQ K H qb b
/-- and what doesn't change -/
structure BF2 (vs : List V) (rvs : List RV) (a b : List Str) (e : Int) : Prop where
  g : Good (.tri (some a) (some b) (some e))
  o : ∀ r ∈ rvs, shOk r
  l : vs.length ≤ 2200
section
variable {K : PySem.W.Frag} {p r t qa qb : Addr} {vs : List V} {rvs : List RV} {a b : List Str} {e : Int} {H H' : Hp}
theorem BC.same (h : BC K p r vs rvs t qa qb a b e H) (s : Same H H') : BC K p r vs rvs t qa qb a b e H' := ⟨h.po.same s, s _ _ h.hr, h.hv.imp fun _ _ x => x.same s, sqT_same h.ht s, sqT_same h.ha s, sqT_same h.hb s⟩
theorem BC.lst {D : Addr} {xs ys : List V} (h : BC K p r vs rvs t qa qb a b e H) (e' : H D = some (.lst xs)) (n : r ≠ D) (np : D ≠ p) : BC K p r vs rvs t qa qb a b e (upd H D (.lst ys)) := ⟨pool_upd h.po np, by rw [upd_ne n]; exact h.hr, h.hv.imp fun _ _ x => x.lst e', sqT_lst h.ht e', sqT_lst h.ha e', sqT_lst h.hb e'⟩
/-- rows + [x] -/
theorem rd_app {x : V} {rv : RV} {Q : VK} (C : BC K p r vs rvs t qa qb a b e H) (F : BF2 vs rvs a b e) (hx : RowAt K H x rv) (so : shOk rv)
    (q : ∀ (l : Addr) (H' : Hp), H l = none → Same H H' → (∃ n, H' l = some (.lst n)) → RowsAt K p H' (.ref l) (some (rvs ++ [rv])) → Q (.ref l) H') :
    [x].length ≤ sizeLine ∧ ∀ m, H m = none → rCat (.ref r) (.ref m) (upd H m (.lst [x])) Q := by
  refine ⟨by show 1 ≤ sizeLine; decide, fun m nm => ?_⟩
  have sm := same_new (o := .lst [x]) nm
  have := F.l
  refine ⟨r, m, _, _, rfl, rfl, sm _ _ C.hr, upd_same, Nat.le_of_lt (small5 (by show vs.length + 1 < 5000; omega)), fun l nl => ?_⟩
  have sl := same_new (o := .lst (vs ++ [x])) nl
  have s := sm.trans sl
  refine q l _ (none_of sm nl) s ⟨_, upd_same⟩ ⟨l, vs ++ [x], rfl, ne_pool (C.po.same sm) nl, upd_same, by rw [List.length_append]; show vs.length + 1 ≤ 3000; omega, (C.hv.imp fun _ _ y => y.same s).app (hx.same s), fun y hy => ?_⟩
  rcases List.mem_append.mp hy with hy | hy
  · exact F.o y hy
  · rw [List.mem_singleton.mp hy]
    exact so
theorem add_nat (j : Nat) : (j : Int) + 1 = ((j + 1 : Nat) : Int) := by omega
theorem cut_drop2 (vs : List V) (j : Nat) : cutV vs (some ((j : Int) + 1)) none = vs.drop (j + 1) := by
  rw [add_nat]
  by_cases h : j + 1 ≤ vs.length
  · exact cut_drop vs (j + 1) h
  · rw [List.drop_of_length_le (by omega)]
    unfold cutV
    rw [show HT.sIx vs.length 0 (some ((j + 1 : Nat) : Int)) = min (j + 1) vs.length from HT.sIx_nat _ _ _, HT.sIx_none, Nat.min_eq_right (by omega), Nat.sub_self, List.take_zero]
def midR (j : Nat) (rvs : List RV) (rv : RV) : List RV := rvs.take j ++ [rv] ++ rvs.drop (j + 1)
/-- rows[:at] + [one] + rows[at + 1:] -/
theorem rd_mid {σ : L2.St} {x : V} {rv : RV} {j : Nat} {Q : VK} (C : BC K p r vs rvs t qa qb a b e H) (F : BF2 vs rvs a b e) (hx : RowAt K H x rv) (so : shOk rv) (h1 : σ[1]? = some (some (.ref r))) (h2 : σ[2]? = some (some (.int (j : Int)))) (h6 : σ[6]? = some (some x))
    (q : ∀ (l : Addr) (H' : Hp), H l = none → Same H H' → (∃ n, H' l = some (.lst n)) → RowsAt K p H' (.ref l) (some (midR j rvs rv)) → Q (.ref l) H') :
    tOp rCat (tOp rCat (tSl (rSlL K) (tVar 1) tNoPart (tPart (tVar 2))) (tLst (tCons (tVar 6) tNil))) (tSl (rSlL K) (tVar 1) (tPart (tOp (rI0 fun i j => V.int (i + j)) (tVar 2) (tC (.int 1)))) tNoPart) σ H Q := by
  have hl := F.l
  refine ⟨_, h1, _, h2, (j : Int), rfl, r, _, rfl, SqL.of C.hr, fun p1 n1 => ?_⟩
  rw [cut_take]
  have s1 := same_new (o := .lst (vs.take j)) n1
  refine ⟨_, h6, by show 1 ≤ sizeLine; decide, fun p2 n2 => ?_⟩
  have s2 := same_new (o := .lst [x]) n2
  have l1 : (vs.take j).length ≤ vs.length := by rw [List.length_take]; exact Nat.min_le_right _ _
  refine ⟨p1, p2, _, _, rfl, rfl, s2 _ _ upd_same, upd_same, Nat.le_of_lt (small5 (by show (vs.take j).length + 1 < 5000; omega)), fun p3 n3 => ?_⟩
  have s3 := same_new (o := .lst (vs.take j ++ [x])) n3
  refine ⟨_, h1, _, h2, _, _, rfl, rfl, _, rfl, r, _, rfl, SqL.of (((s1.trans s2).trans s3) _ _ C.hr), fun p4 n4 => ?_⟩
  rw [cut_drop2]
  have s4 := same_new (o := .lst (vs.drop (j + 1))) n4
  have l2 : (vs.take j).length + (vs.drop (j + 1)).length ≤ vs.length := by rw [List.length_take, List.length_drop]; omega
  refine ⟨p3, p4, _, _, rfl, rfl, s4 _ _ upd_same, upd_same, Nat.le_of_lt (small5 (by rw [List.length_append]; show (vs.take j).length + 1 + _ < 5000; omega)), fun l nl => ?_⟩
  have s5 := same_new (o := .lst (vs.take j ++ [x] ++ vs.drop (j + 1))) nl
  have s := (((s1.trans s2).trans s3).trans s4).trans s5
  have hv := C.hv.imp fun _ _ y => y.same s
  refine q l _ (none_of (((s1.trans s2).trans s3).trans s4) nl) s ⟨_, upd_same⟩ ⟨l, _, rfl, ne_pool (C.po.same (((s1.trans s2).trans s3).trans s4)) nl, upd_same, by rw [List.length_append, List.length_append]; show (vs.take j).length + 1 + _ ≤ 3000; omega, ((hv.take j).app (hx.same s)).cat (hv.drop (j + 1)), fun y hy => ?_⟩
  rcases List.mem_append.mp hy with hy | hy
  · rcases List.mem_append.mp hy with hy | hy
    · exact F.o y (List.mem_of_mem_take hy)
    · rw [List.mem_singleton.mp hy]
      exact so
  · exact F.o y (List.mem_of_mem_drop hy)
/-- rows[:at] + rows[at + 1:] -/
theorem rd_cut {σ : L2.St} {j : Nat} {Q : VK} (C : BC K p r vs rvs t qa qb a b e H) (F : BF2 vs rvs a b e) (h1 : σ[1]? = some (some (.ref r))) (h2 : σ[2]? = some (some (.int (j : Int))))
    (q : ∀ (l : Addr) (H' : Hp), H l = none → Same H H' → (∃ n, H' l = some (.lst n)) → RowsAt K p H' (.ref l) (some (rvs.take j ++ rvs.drop (j + 1))) → Q (.ref l) H') :
    tOp rCat (tSl (rSlL K) (tVar 1) tNoPart (tPart (tVar 2))) (tSl (rSlL K) (tVar 1) (tPart (tOp (rI0 fun i j => V.int (i + j)) (tVar 2) (tC (.int 1)))) tNoPart) σ H Q := by
  have hl := F.l
  refine ⟨_, h1, _, h2, (j : Int), rfl, r, _, rfl, SqL.of C.hr, fun p1 n1 => ?_⟩
  rw [cut_take]
  have s1 := same_new (o := .lst (vs.take j)) n1
  have l1 : (vs.take j).length ≤ vs.length := by rw [List.length_take]; exact Nat.min_le_right _ _
  refine ⟨_, h1, _, h2, _, _, rfl, rfl, _, rfl, r, _, rfl, SqL.of (s1 _ _ C.hr), fun p4 n4 => ?_⟩
  rw [cut_drop2]
  have s4 := same_new (o := .lst (vs.drop (j + 1))) n4
  have l2 : (vs.take j).length + (vs.drop (j + 1)).length ≤ vs.length := by rw [List.length_take, List.length_drop]; omega
  refine ⟨p1, p4, _, _, rfl, rfl, s4 _ _ upd_same, upd_same, Nat.le_of_lt (small5 (by omega)), fun l nl => ?_⟩
  have s5 := same_new (o := .lst (vs.take j ++ vs.drop (j + 1))) nl
  have s := (s1.trans s4).trans s5
  have hv := C.hv.imp fun _ _ y => y.same s
  refine q l _ (none_of (s1.trans s4) nl) s ⟨_, upd_same⟩ ⟨l, _, rfl, ne_pool (C.po.same (s1.trans s4)) nl, upd_same, by rw [List.length_append]; omega, (hv.take j).cat (hv.drop (j + 1)), fun y hy => ?_⟩
  rcases List.mem_append.mp hy with hy | hy
  · exact F.o y (List.mem_of_mem_take hy)
  · exact F.o y (List.mem_of_mem_drop hy)
end
end K1
namespace K1
open PySem PySem.Spec PyProof.Rows L2 Bk
def spBent (K : PySem.W.Frag) : Sp := fun vs H Q _ => ∃ (p r : Addr), vs = [.ref p, .ref r] ∧ r ≠ p ∧ HR K p r 2200 H H ∧ ∀ (v : V) (rs : Option (List RV)) (H' : Hp), KeepP p H H' → Pool H' p → RowsAt K p H' v rs → Q v H'
theorem RowsAt.neNew {K : PySem.W.Frag} {p D : Addr} {H : Hp} {v : V} : ∀ {rs : Option (List RV)}, RowsAt K p H v rs → H D = none → v ≠ .ref D
  | some _, ⟨l, vs, e, _, hl, _⟩, n => fun x => by
    rw [e] at x
    cases x
    rw [hl] at n
    cases n
  | none, h, n => fun x => by
    rcases h with h | ⟨q, xs, e, hq⟩
    · rw [h] at x
      cases x
    · rw [e] at x
      cases x
      rw [hq] at n
      cases n
theorem len_lt {k : Nat} (h : k ≤ 100) : k < sizeLine := small1000 (by omega)
section
variable {K : PySem.W.Frag} {p r t qa qb : Addr} {vs : List V} {rvs : List RV} {a b : List Str} {e : Int} {H H' : Hp}
theorem BF2.wa (F : BF2 vs rvs a b e) : 1 ≤ a.length ∧ a.length ≤ 3 ∧ a.length = b.length ∧ (∀ w ∈ a, w ∈ shW) ∧ (∀ w ∈ b, w ∈ shW) ∧ 0 ≤ e ∧ e ≤ 3 := by
  obtain ⟨a', b', e', h, x⟩ := F.g
  cases h
  exact x
theorem BC.shA (C : BC K p r vs rvs t qa qb a b e H) (F : BF2 vs rvs a b e) : ShAt K H (.ref qa) (some a) := by
  have := F.wa
  exact ⟨qa, rfl, C.ha, by omega, this.2.2.2.1⟩
theorem BC.shB (C : BC K p r vs rvs t qa qb a b e H) (F : BF2 vs rvs a b e) : ShAt K H (.ref qb) (some b) := by
  have := F.wa
  exact ⟨qb, rfl, C.hb, by omega, this.2.2.2.2.1⟩
theorem BC.row (C : BC K p r vs rvs t qa qb a b e H) (F : BF2 vs rvs a b e) : RowAt K H (.ref t) (.tri (some a) (some b) (some e)) := ⟨t, _, _, _, rfl, C.ht, C.shA F, C.shB F, rfl⟩
theorem shOk_of {a b : Option (List Str)} {i : Option Int} (h1 : ∀ r, a = some r → ∀ w ∈ r, w ∈ shW) (h2 : ∀ r, b = some r → ∀ w ∈ r, w ∈ shW) : shOk (.tri a b i) := ⟨h1, h2⟩
/-- x[:1] of a tuple of texts -/
theorem rd_first {Q : VK} (hq : TQ K H qa a) (h1 : 1 ≤ a.length) (q : ∀ (q' : Addr) (H' : Hp), Same H H' → TQ K H' q' (a.take 1) → Q (.ref q') H') : rSlA K (.ref qa) none (some 1) H Q := by
  refine ⟨qa, _, rfl, hq, fun wh => ?_, fun _ p np => ?_⟩
  · have hl : (a.map V.str).length = 1 := by
      have := wh.2
      rw [show HT.sIx (a.map V.str).length (a.map V.str).length (some (1 : Int)) = min 1 (a.map V.str).length from HT.sIx_nat _ _ 1, List.length_map] at this
      rw [List.length_map]
      omega
    refine q qa H (Same.refl H) ?_
    rw [List.take_of_length_le (by rw [List.length_map] at hl; omega)]
    exact hq
  · refine q p _ (same_new np) ?_
    have e : cutV (a.map V.str) none (some 1) = (a.take 1).map V.str := by
      rw [show (1 : Int) = ((1 : Nat) : Int) from rfl, cut_take, List.map_take]
    rw [e]
    exact SqT.of upd_same
/-- ('any',) * len(x) -/
theorem rd_rep {Q : VK} {o : Addr} {k : Nat} (ho : SqT K H o [.str "any"]) (h1 : 1 ≤ k) (h3 : k ≤ 3) (q : ∀ (q' : Addr) (H' : Hp), Same H H' → TQ K H' q' (List.replicate k "any") → Q (.ref q') H') : rRepA K (.ref o) (.int (k : Int)) H Q := by
  refine ⟨o, k, _, rfl, rfl, ho, by simp, by omega, by omega, by simp, fun hk => ?_, fun _ p np => ?_⟩
  · have : k = 1 := by omega
    subst this
    exact q o H (Same.refl H) ho
  · refine q p _ (same_new np) ?_
    have e : (List.replicate (k : Int).toNat [V.str "any"]).flatten = (List.replicate k ("any" : Str)).map V.str := by
      rw [Int.toNat_natCast]
      have : k = 1 ∨ k = 2 ∨ k = 3 := by omega
      rcases this with rfl | rfl | rfl <;> rfl
    rw [e]
    exact SqT.of upd_same
/-- x + ('own',) -/
theorem rd_own {Q : VK} {o : Addr} (hq : TQ K H qa a) (h1 : 1 ≤ a.length) (h3 : a.length ≤ 3) (ho : SqT K H o [.str "own"]) (q : ∀ (q' : Addr) (H' : Hp), Same H H' → TQ K H' q' (a ++ [("own" : Str)]) → Q (.ref q') H') : rCatA K (.ref qa) (.ref o) H Q := by
  refine ⟨qa, o, _, _, rfl, rfl, hq, ho, ?_, fun e => ?_, fun _ e => (by cases e), fun _ _ p np => ?_⟩
  · rw [List.length_map]
    exact Nat.le_of_lt (small1000 (by show a.length + 1 ≤ 1000; omega))
  · have := congrArg List.length e
    rw [List.length_map, List.length_nil] at this
    omega
  · refine q p _ (same_new np) ?_
    show SqT K _ p ((a ++ [("own" : Str)]).map V.str)
    rw [List.map_append]
    exact SqT.of upd_same
end
section
variable {P : Program} {w : World} {K : PySem.W.Frag} {mg : Str → Option Value} {base : Heap} {CB CE CP : Addr}
theorem ok_bent {f fT : Addr} {fd fdT : FuncData} (F : Fun K "_law_bent_rows" "_law_bent_rows" sBentR f fd) (T : Tx mg)
    (mT : mg "_law_take" = some (.ref fT)) (kT : PySem.W.keepIn K (.ref fT) = true) (bT : Binds K fdT ["_law_pool", "_law_many"] []) (GT : FnOk P w K mg base CX0 1 fT fdT ["_law_pool", "_law_many"] spTake) :
    FnOk P w K mg base CX0 2 f fd ["_law_pool", "_law_rows"] (spBent K) := by
  refine F.ok scBent (fun vs H Q E h => ?_) (fun cdv A outer s H vs Q E hr h => ?_)
  · obtain ⟨p, r, rfl, _⟩ := h
    rfl
  · obtain ⟨p, r, rfl, rp, hR, q⟩ := h
    refine ⟨_, pss_cons (ps_set (i := 2) scBent.nd rfl (Or.inr rfl) (pe_ifExp (pt_cmpR (op_neNil hr.units0) (pv 1) (pe_lst pa_nil) (nomark _)) (pe_call GT hr (by rfl) mT kT bT .nil pass0 (pa_cons (pv 0) (pa_cons (pe_callB call_len_seq (by rfl) T.len PySem.boot_len (pa_cons (pv 1) pa_nil)) pa_nil))) pe_int)) <|
      pss_cons (ps_set (i := 3) scBent.nd rfl (Or.inl rfl) (pe_ifExp (pt_cmpR (op_neNil hr.units0) (pv 1) (pe_lst pa_nil) (nomark _)) (pe_ix ix_list (pv 1) (pv 2) (fun _ _ => rfl)) (pe_tup (pa_cons (pe_tup (pa_cons pe_str pa_nil)) (pa_cons (pe_tup (pa_cons pe_str pa_nil)) (pa_cons pe_int pa_nil)))))) <|
      pss_cons (ps_set (i := 4) scBent.nd rfl (Or.inl rfl) (pe_tup (pa_cons (pe_slice sl_tupA (pe_ix ix_tup (pv 3) pe_int (fun _ _ => rfl)) po_none (po_some pe_int)) (pa_cons (pe_slice sl_tupA (pe_ix ix_tup (pv 3) pe_int (fun _ _ => rfl)) po_none (po_some pe_int)) (pa_cons pe_int pa_nil))))) <|
      pss_cons (ps_set (i := 5) scBent.nd rfl (Or.inl rfl) (pe_lst (pa_cons (pe_op op_cat (pe_slice sl_list (pv 1) po_none (po_some (pv 2))) (pe_slice sl_list (pv 1) (po_some (pe_op op_add (pv 2) pe_int)) po_none)) (pa_cons
          (pe_op op_cat (pv 1) (pe_lst (pa_cons (pv 3) pa_nil))) (pa_cons
          (pe_op op_cat (pv 1) (pe_lst (pa_cons (pe_tup (pa_cons (pe_op op_repA (pe_tup (pa_cons pe_str pa_nil)) (pe_callB call_len_seq (by rfl) T.len PySem.boot_len (pa_cons (pe_ix ix_tup (pv 3) pe_int (fun _ _ => rfl)) pa_nil))) (pa_cons (pe_ix ix_tup (pv 3) pe_int (fun _ _ => rfl)) (pa_cons pe_int pa_nil)))) pa_nil))) (pa_cons
          (pe_op op_cat (pv 1) (pe_lst (pa_cons (pv 4) pa_nil))) pa_nil)))))) <|
      pss_cons (ps_set (i := 5) scBent.nd rfl (Or.inl rfl) (pe_op op_cat (pv 5) (pe_lc (own := [("_law_one", 6)]) (g := gName 6) (tt := tYes) (te := tOp rCat (tOp rCat (tSl (rSlL K) (tVar 1) tNoPart (tPart (tVar 2))) (tLst (tCons (tVar 6) tNil))) (tSl (rSlL K) (tVar 1) (tPart (tOp (rI0 fun i j => V.int (i + j)) (tVar 2) (tC (.int 1)))) tNoPart)) (by rfl) scBent.nd
            (pi_list (pe_lst (pa_cons (pe_tup (pa_cons (pe_ix ix_tup (pv 3) pe_int (fun _ _ => rfl)) (pa_cons (pe_ix ix_tup (pv 3) pe_int (fun _ _ => rfl)) (pa_cons (pe_op op_mod (pe_op op_add (pe_ix ix_tup (pv 3) pe_int (fun _ _ => rfl)) pe_int) pe_int) pa_nil)))) pa_nil)))
            (blkOk_by (own := [("_law_one", 6)]) (N := ["_law_pool", "_law_rows", "_law_at", "_law_row", "_law_short", "_law_ways", "_law_one"]) (sc := defScope sBentR) (by decide +kernel)) (fun _ _ _ _ _ => pg_name (i := 6) scBent.nd rfl (Or.inl rfl)) (fun _ _ _ _ _ => pts_nil)
            (fun _ _ _ _ _ => by exact pe_op op_cat (pe_op op_cat (pe_slice sl_list (pv 1) po_none (po_some (pv 2))) (pe_lst (pa_cons (pv 6) pa_nil))) (pe_slice sl_list (pv 1) (po_some (pe_op op_add (pv 2) pe_int)) po_none))))) <|
      pss_cons (ps_for PassesOwn.never rfl (pi_list (pe_lst (pa_cons (pe_tup (pa_cons (pe_ix ix_tup (pv 3) pe_int (fun _ _ => rfl)) (pa_cons (pe_ix ix_tup (pv 3) pe_int (fun _ _ => rfl)) (pa_cons (pe_un un_neg pe_int) pa_nil)))) (pa_cons
          (pe_tup (pa_cons (pe_ix ix_tup (pv 3) pe_int (fun _ _ => rfl)) (pa_cons (pe_ix ix_tup (pv 3) pe_int (fun _ _ => rfl)) (pa_cons (pe_cmpR op_eq (pe_ix ix_tup (pv 3) pe_int (fun _ _ => rfl)) pe_int (nomark _)) pa_nil)))) (pa_cons
          (pe_tup (pa_cons (pe_callTy call_list_of (by rfl) T.list (by decide +kernel) (pa_cons (pe_ix ix_tup (pv 3) pe_int (fun _ _ => rfl)) pa_nil)) (pa_cons (pe_ix ix_tup (pv 3) pe_int (fun _ _ => rfl)) (pa_cons (pe_ix ix_tup (pv 3) pe_int (fun _ _ => rfl)) pa_nil)))) (pa_cons
          (pe_callTy call_list_of (by rfl) T.list (by decide +kernel) (pa_cons (pv 3) pa_nil)) pa_nil)))))) (pg_name (i := 6) scBent.nd rfl (Or.inl rfl))
        (pss_one (ps_expr (pe_bm PySem.F.plainAttrs_list PySem.F.slot_list_append PySem.F.type_list_append mt_append (pv 5) (pa_cons (pe_op op_cat (pe_op op_cat (pe_slice sl_list (pv 1) po_none (po_some (pv 2))) (pe_lst (pa_cons (pv 6) pa_nil))) (pe_slice sl_list (pv 1) (po_some (pe_op op_add (pv 2) pe_int)) po_none)) pa_nil))))) <|
      pss_cons (ps_expr (pe_bm PySem.F.plainAttrs_list PySem.F.slot_list_append PySem.F.type_list_append mt_append (pv 5) (pa_cons (pe_op op_cat (pv 1) (pe_lst (pa_cons (pe_tup (pa_cons (pe_op op_catA (pe_ix ix_tup (pv 3) pe_int (fun _ _ => rfl)) (pe_tup (pa_cons pe_str pa_nil))) (pa_cons (pe_op op_catA (pe_ix ix_tup (pv 3) pe_int (fun _ _ => rfl)) (pe_tup (pa_cons pe_str pa_nil)))
          (pa_cons (pe_callB call_len_seq (by rfl) T.len PySem.boot_len (pa_cons (pe_ix ix_tup (pv 3) pe_int (fun _ _ => rfl)) pa_nil)) pa_nil)))) pa_nil))) pa_nil))) <|
      pss_cons (ps_expr (pe_bm PySem.F.plainAttrs_list PySem.F.slot_list_append PySem.F.type_list_append mt_append (pv 5) (pa_cons (pe_op op_cat (pv 1) (pe_lst (pa_cons (pe_tup (pa_cons (pe_tup (pa_cons pe_str (pa_cons pe_str (pa_cons pe_str (pa_cons pe_str pa_nil))))) (pa_cons (pe_tup (pa_cons pe_str (pa_cons pe_str (pa_cons pe_str (pa_cons pe_str pa_nil))))) (pa_cons pe_int pa_nil)))) pa_nil))) pa_nil))) <|
      pss_cons (ps_set (i := 5) scBent.nd rfl (Or.inl rfl) (pe_op op_cat (pv 5) (pe_lst (pa_cons (pe_op op_cat (pv 1) (pe_lst (pa_cons pe_non pa_nil))) (pa_cons
          (pe_op op_cat (pv 1) (pe_lst (pa_cons (pe_slice sl_tupA (pv 3) po_none (po_some pe_int)) pa_nil))) (pa_cons
          (pe_callTy call_tuple_of (by rfl) T.tuple (by decide +kernel) (pa_cons (pv 1) pa_nil)) (pa_cons (pe_revL (pv 1)) (pa_cons (pv 1) (pa_cons pe_non pa_nil))))))))) <|
      pss_cons (ps_expr (pe_bm PySem.F.plainAttrs_list PySem.F.slot_list_append PySem.F.type_list_append mt_append (pv 5) (pa_cons (pe_op op_cat (pv 1) (pe_lst (pa_cons (pe_tup (pa_cons (pe_ix ix_tup (pv 3) pe_int (fun _ _ => rfl)) (pa_cons (pe_ix ix_tup (pv 3) pe_int (fun _ _ => rfl)) (pa_cons (pe_ix ix_tup (pv 3) pe_int (fun _ _ => rfl)) pa_nil)))) pa_nil))) pa_nil))) <|
      pss_one (ps_ret (pe_ix ix_list (pv 5) (pe_call GT hr (by rfl) mT kT bT .nil pass0 (pa_cons (pv 0) (pa_cons (pe_callB call_len_seq (by rfl) T.len PySem.boot_len (pa_cons (pv 5) pa_nil)) pa_nil))) (fun _ _ => rfl))), ?_⟩
    obtain ⟨_, po, vs, rvs, hrr, hv, hg, hlen⟩ := hR
    refine ⟨_, rfl, by show 0 ≤ sizeLine; decide, fun z nz => ?_⟩
    have sz := same_new (o := .lst []) nz
    refine ⟨r, z, vs, rfl, rfl, SqL.of (sz _ _ hrr), SqL.of upd_same, _, rfl, ?_⟩
    have poz := po.same sz
    have fo : ∀ y ∈ rvs, shOk y := fun y hy => (hg y hy).ok
    cases vs
    case' nil =>
      refine iteF ⟨_, rfl, by show 0 ≤ sizeLine; decide, fun z2 nz2 => ?_⟩
      have sz2 := same_new (o := .lst []) nz2
      refine ⟨r, z2, [], rfl, rfl, SqL.of (sz2 _ _ (sz _ _ hrr)), SqL.of upd_same, _, rfl, iteF ?_⟩
      refine ⟨by show 1 ≤ sizeLine; decide, fun qa na => ⟨by show 1 ≤ sizeLine; decide, fun qb nb => ⟨by show 3 ≤ sizeLine; decide, fun t nt => ?_⟩⟩⟩
      have sa := same_new (o := .tup [.str "own"]) na
      have sb := same_new (o := .tup [.str "own"]) nb
      have st := same_new (o := .tup [.ref qa, .ref qb, .int 0]) nt
      obtain ⟨j, hj⟩ : ∃ j : Nat, V.int (j : Int) = V.int 0 := ⟨0, rfl⟩
      have h1 := (((sz.trans sz2).trans sa).trans sb).trans st
      obtain ⟨e, he⟩ : ∃ e : Int, e = 0 := ⟨0, rfl⟩
      have C0 : BC K p r [] rvs t qa qb ["own"] ["own"] e (upd (upd (upd (upd (upd H z (.lst [])) z2 (.lst [])) qa (.tup [.str "own"])) qb (.tup [.str "own"])) t (.tup [.ref qa, .ref qb, .int 0])) := ⟨po.same h1, h1 _ _ hrr, hv.imp fun _ _ y => y.same h1, by rw [he]; exact SqT.of upd_same, SqT.of (st _ _ (sb _ _ upd_same)), SqT.of (st _ _ upd_same)⟩
      have Fx0 : BF2 [] rvs ["own"] ["own"] e := ⟨⟨_, _, _, rfl, by decide, by decide, rfl, by decide +kernel, by decide +kernel, by omega, by omega⟩, fo, hlen⟩
      have pk : ∃ vs a b, BC K p r vs rvs t qa qb a b e _ ∧ BF2 vs rvs a b e := ⟨_, _, _, C0, Fx0⟩
      clear C0 Fx0
      obtain ⟨vs, a, b, C, Fx⟩ := pk
      have KK : KeepP p H (upd (upd (upd (upd (upd H z (.lst [])) z2 (.lst [])) qa (.tup [.str "own"])) qb (.tup [.str "own"])) t (.tup [.ref qa, .ref qb, .int 0])) := KeepP.same h1
      clear h1 st sb sa sz2
      revert C KK
      generalize (upd (upd (upd (upd (upd H z (.lst [])) z2 (.lst [])) qa (.tup [.str "own"])) qb (.tup [.str "own"])) t (.tup [.ref qa, .ref qb, .int 0])) = H1
      intro C KK
    case' cons x0 vs0 =>
      refine iteT ⟨_, rfl, _, rfl, r, _, rfl, .inl (SqL.of (sz _ _ hrr)), p, _, rfl, poz, by show (0 : Int) < ((vs0.length + 1 : Nat) : Int); omega, by have : vs0.length + 1 ≤ 2200 := hlen; show ((vs0.length + 1 : Nat) : Int) < _; omega, fun d H2 d0 d1 hp2 k2 => ?_⟩
      have hr2 := k2 _ _ rp (sz _ _ hrr)
      refine ⟨_, rfl, by show 0 ≤ sizeLine; decide, fun z2 nz2 => ?_⟩
      have sz2 := same_new (o := .lst []) nz2
      refine ⟨r, z2, _, rfl, rfl, SqL.of (sz2 _ _ hr2), SqL.of upd_same, _, rfl, iteT ?_⟩
      obtain ⟨j, hj'⟩ : ∃ j : Nat, (j : Int) = d := ⟨d.toNat, by omega⟩
      have hj : V.int (j : Int) = V.int d := congrArg V.int hj'
      have hjl : j < (x0 :: vs0).length := by
        have d1 : d < ((vs0.length + 1 : Nat) : Int) := d1
        show j < vs0.length + 1
        omega
      have hjx : (x0 :: vs0)[j]? = some (x0 :: vs0)[j] := List.getElem?_eq_getElem hjl
      have KK : KeepP p H (upd H2 z2 (.lst [])) := (KeepP.same sz).trans (k2.trans (KeepP.same sz2))
      have po2 := hp2.same sz2
      have hv2 := hv.imp fun _ _ y => y.keep KK po po2
      obtain ⟨rv, hrv, hrow⟩ := hv2.2 j _ hjx
      obtain ⟨a, b, e, he, hgd⟩ := hg rv (List.mem_of_getElem? hrv)
      have hG : Good rv := ⟨a, b, e, he, hgd⟩
      subst he
      generalize (x0 :: vs0)[j] = xj at hjx hrow
      obtain ⟨t, x1, x2, x3, rfl, ht, ⟨qa, rfl, ha, _, _⟩, ⟨qb, rfl, hb, _, _⟩, rfl⟩ := hrow
      refine ⟨_, rfl, _, rfl, r, _, d, _, rfl, rfl, SqL.of (sz2 _ _ hr2), (by rw [← hj']; exact atI_nat hjx), ?_⟩
      have pk : ∃ vs, BC K p r vs rvs t qa qb a b e (upd H2 z2 (.lst [])) ∧ BF2 vs rvs a b e := ⟨x0 :: vs0, ⟨po2, sz2 _ _ hr2, hv2, ht, ha, hb⟩, ⟨hG, fo, hlen⟩⟩
      clear hv2 ht ha hb
      obtain ⟨vs, C, Fx⟩ := pk
      revert C KK
      generalize (upd H2 z2 (.lst [])) = H1
      intro KK C
    all_goals
      have hw := Fx.wa
      -- the short row
      refine ⟨_, rfl, t, _, 0, _, rfl, rfl, C.ht, atI_nat (j := 0) rfl, 1, rfl, ?_⟩
      refine rd_first C.ha hw.1 fun sa H2 s2 hsa => ?_
      refine ⟨_, rfl, t, _, 1, _, rfl, rfl, (C.same s2).ht, atI_nat (j := 1) rfl, 1, rfl, ?_⟩
      refine rd_first (C.same s2).hb (by omega) fun sb H3 s3 hsb => ?_
      refine ⟨by show 3 ≤ sizeLine; decide, fun ts nts => ?_⟩
      have sts := same_new (o := .tup [.ref sa, .ref sb, .int 0]) nts
      have S4 : Same H1 (upd H3 ts (.tup [.ref sa, .ref sb, .int 0])) := (s2.trans s3).trans sts
      have okS : shOk (.tri (some (a.take 1)) (some (b.take 1)) (some 0)) := shOk_of (fun r e => by cases e; exact fun w hw' => hw.2.2.2.1 w (List.mem_of_mem_take hw')) (fun r e => by cases e; exact fun w hw' => hw.2.2.2.2.1 w (List.mem_of_mem_take hw'))
      have hShort : RowAt K (upd H3 ts (.tup [.ref sa, .ref sb, .int 0])) (.ref ts) (.tri (some (a.take 1)) (some (b.take 1)) (some 0)) :=
        ⟨ts, _, _, _, rfl, SqT.of upd_same, ⟨sa, rfl, sqT_same hsa (s3.trans sts), by rw [List.length_take]; omega, okS.1 _ rfl⟩, ⟨sb, rfl, sqT_same hsb sts, by rw [List.length_take]; omega, okS.2 _ rfl⟩, rfl⟩
      have C4 := C.same S4
      clear sts hsa hsb s2 s3
      revert S4 hShort C4
      generalize upd H3 ts (.tup [.ref sa, .ref sb, .int 0]) = H4
      intro S4 hShort C4
      have okR : shOk (.tri (some a) (some b) (some e)) := Fx.g.ok
      -- the first four ways
      refine rd_cut C4 Fx rfl (by rw [hj]; rfl) ?_
      intro w1 H5 nw1 s5 he1 R1
      have C5 := C4.same s5
      refine ⟨_, rfl, _, rfl, ?_⟩
      refine rd_app C5 Fx (C5.row Fx) okR ?_
      intro w2 H6 nw2 s6 he2 R2
      have C6 := C5.same s6
      refine ⟨_, rfl, by show 1 ≤ sizeLine; decide, fun o1 no1 => ?_⟩
      have so1 := same_new (o := .tup [.str "any"]) no1
      have C6' := C6.same so1
      refine ⟨_, rfl, t, _, 0, _, rfl, rfl, C6'.ht, atI_nat (j := 0) rfl, qa, _, rfl, .inr C6'.ha, ?_⟩
      rw [List.length_map]
      refine rd_rep (SqT.of upd_same) hw.1 hw.2.1 fun o2 H7 s7 ho2 => ?_
      have C7 := C6'.same s7
      refine ⟨_, rfl, t, _, 1, _, rfl, rfl, C7.ht, atI_nat (j := 1) rfl, by show 3 ≤ sizeLine; decide, fun t3 nt3 => ?_⟩
      have st3 := same_new (o := .tup [.ref o2, .ref qb, .int 0]) nt3
      have C8 := C7.same st3
      have wAny : ∀ w ∈ List.replicate a.length ("any" : Str), w ∈ shW := fun w hw' => by
        rw [List.eq_of_mem_replicate hw']
        decide +kernel
      refine rd_app (rv := .tri (some (List.replicate a.length "any")) (some b) (some 0)) C8 Fx ⟨t3, _, _, _, rfl, SqT.of upd_same, ⟨o2, rfl, sqT_same ho2 st3, by rw [List.length_replicate]; omega, wAny⟩, C8.shB Fx, rfl⟩ (shOk_of (fun r e => by cases e; exact wAny) (okR.2)) ?_
      intro w3 H9 nw3 s9 he3 R3
      have C9 := C8.same s9
      have hSh9 := hShort.same ((((s5.trans s6).trans so1).trans s7).trans (st3.trans s9))
      refine ⟨_, rfl, _, rfl, ?_⟩
      refine rd_app C9 Fx hSh9 okS ?_
      intro w4 H10 nw4 s10 he4 R4
      have C10 := C9.same s10
      refine ⟨by show 4 ≤ sizeLine; decide, fun W nW => ?_⟩
      have sW := same_new (o := .lst [V.ref w1, .ref w2, .ref w3, .ref w4]) nW
      have S9 : Same H4 H9 := ((((s5.trans s6).trans so1).trans s7).trans (st3.trans s9))
      have WA : WAt K p W 4 H4 (upd H10 W (.lst [V.ref w1, .ref w2, .ref w3, .ref w4])) := by
        have r1 := R1.same ((((s6.trans so1).trans s7).trans (st3.trans s9)).trans s10)
        have r2 := R2.same (((so1.trans s7).trans (st3.trans s9)).trans s10)
        have r3 := R3.same s10
        refine ⟨(S9.trans s10).trans sW, none_of (S9.trans s10) nW, _, upd_same, Nat.le_refl _, fun x hx => ?_⟩
        simp only [List.mem_cons, List.not_mem_nil, or_false] at hx
        rcases hx with rfl | rfl | rfl | rfl
        · exact ⟨r1.neNew nW, _, r1.same sW⟩
        · exact ⟨r2.neNew nW, _, r2.same sW⟩
        · exact ⟨r3.neNew nW, _, r3.same sW⟩
        · exact ⟨R4.neNew nW, _, R4.same sW⟩
      have C11 := C10.same sW
      have rW : r ≠ W := ne_of_none C10.hr nW
      have Wp : W ≠ p := ne_pool C10.po nW
      have hW : (upd H10 W (.lst [V.ref w1, .ref w2, .ref w3, .ref w4])) W = some (.lst [V.ref w1, .ref w2, .ref w3, .ref w4]) := upd_same
      clear sW S9 R1 R2 R3 R4 he1 he2 he3 he4 hSh9 C10 C9 C8 C7 C6' C6 C5 C4
      revert WA C11 hW
      generalize [V.ref w1, .ref w2, .ref w3, .ref w4] = ws0
      generalize upd H10 W (.lst ws0) = H11
      intro WA C11 hW
      -- one way more, by a comprehension
      refine ⟨_, rfl, _, rfl, t, _, 0, _, rfl, rfl, C11.ht, atI_nat (j := 0) rfl, _, rfl, t, _, 1, _, rfl, rfl, C11.ht, atI_nat (j := 1) rfl, _, rfl, t, _, 2, _, rfl, rfl, C11.ht, atI_nat (j := 2) rfl, _, _, rfl, rfl, _, _, rfl, rfl, (by show (0 : Int) < 3; decide), by show 3 ≤ sizeLine; decide, fun t5 nt5 => ⟨by show 1 ≤ sizeLine; decide, fun c nc => ⟨c, rfl, ⟨_, SqL.of upd_same⟩, fun D nD => ?_⟩⟩⟩
      have st5 := same_new (o := .tup [.ref qa, .ref qb, .int ((e + 1) % 3)]) nt5
      have sc := same_new (o := .lst [.ref t5]) nc
      have hc : (upd (upd H11 t5 (.tup [.ref qa, .ref qb, .int ((e + 1) % 3)])) c (.lst [.ref t5])) c = some (.lst [.ref t5]) := upd_same
      have ht5 : (upd (upd H11 t5 (.tup [.ref qa, .ref qb, .int ((e + 1) % 3)])) c (.lst [.ref t5])) t5 = some (.tup [.ref qa, .ref qb, .int ((e + 1) % 3)]) := sc _ _ upd_same
      have C12 := C11.same (st5.trans sc)
      have WA12 := WA.same (st5.trans sc)
      have hW12 := (st5.trans sc) _ _ hW
      clear st5 sc hW
      revert nD hc ht5 C12 WA12 hW12
      generalize upd (upd H11 t5 (.tup [.ref qa, .ref qb, .int ((e + 1) % 3)])) c (.lst [.ref t5]) = H12
      intro nD hc ht5 C12 WA12 hW12
      have sD := same_new (o := .lst []) nD
      have cD : c ≠ D := ne_of_none hc nD
      refine lc_list (K := K) (a := c) (xs := [.ref t5]) (fun i H' => WAt K p D i H12 H') ⟨sD, nD, [], upd_same, Nat.le_refl _, fun x hx => by cases hx⟩ (fun i H' _ h => SqL.of (h.1 _ _ hc)) ?_ ?_
      · rintro i u H' hu hWA
        have hu' : i < 1 := (List.getElem?_eq_some_iff.mp hu).1
        have hi0 : i = 0 := by omega
        subst hi0
        have hu : V.ref t5 = u := by simpa using hu
        subst hu
        refine ⟨rfl, ?_⟩
        unfold tYes
        refine iteT ?_
        have C13 := C12.same hWA.1
        refine rd_mid (rv := .tri (some a) (some b) (some ((e + 1) % 3))) C13 Fx ⟨t5, _, _, _, rfl, SqT.of (hWA.1 _ _ ht5), C13.shA Fx, C13.shB Fx, rfl⟩ ⟨okR.1, okR.2⟩ rfl (by rw [hj]; rfl) rfl ?_
        intro l H13 nl s13 _ R
        obtain ⟨acc, a1, a2, a3⟩ := (hWA.same s13).app R (hWA.ne nl)
        exact ⟨acc, a1, len_lt (by omega), a3⟩
      rintro H13 hWD
      obtain ⟨s13, _, zs, hD13, zl, hz⟩ := hWD
      have C13 := C12.same s13
      have WA13 := WA12.same s13
      have hW13 := s13 _ _ hW12
      have lW : ws0.length ≤ 4 := by
        obtain ⟨_, _, ws', b', c', _⟩ := WA13
        rw [hW13] at b'
        cases b'
        exact c'
      refine ⟨W, D, ws0, zs, rfl, rfl, hW13, hD13, Nat.le_of_lt (len_lt (by have : zs.length ≤ 1 := zl; omega)), fun W2 nW2 => ?_⟩
      have WA14 := WA13.new hW13 nW2 zl (fun x hx => by
        obtain ⟨_, rs', h'⟩ := hz x hx
        exact ⟨h'.neNew nW2, rs', h'⟩)
      have C14 := C13.same (same_new (o := .lst (ws0 ++ zs)) nW2)
      have rW2 : r ≠ W2 := ne_of_none C13.hr nW2
      have W2p : W2 ≠ p := ne_pool C13.po nW2
      clear hz zl hW13 WA13 C13 hD13 C12 WA12 hW12 WA C11
      revert WA14 C14
      generalize upd H13 W2 (.lst (ws0 ++ zs)) = H14
      intro WA14 C14
      -- four ways more, one by one
      refine ⟨_, rfl, t, _, 0, _, rfl, rfl, C14.ht, atI_nat (j := 0) rfl, _, rfl, t, _, 1, _, rfl, rfl, C14.ht, atI_nat (j := 1) rfl, _, rfl, by show 3 ≤ sizeLine; decide, fun y1 ny1 => ?_⟩
      have sy1 := same_new (o := .tup [.ref qa, .ref qb, .int (-1)]) ny1
      have C15 := C14.same sy1
      refine ⟨_, rfl, t, _, 0, _, rfl, rfl, C15.ht, atI_nat (j := 0) rfl, _, rfl, t, _, 1, _, rfl, rfl, C15.ht, atI_nat (j := 1) rfl, _, rfl, t, _, 2, _, rfl, rfl, C15.ht, atI_nat (j := 2) rfl, rfl, by show 3 ≤ sizeLine; decide, fun y2 ny2 => ?_⟩
      have sy2 := same_new (o := .tup [.ref qa, .ref qb, .bl (decide (V.int e = V.int 1))]) ny2
      have C16 := C15.same sy2
      refine ⟨_, rfl, t, _, 0, _, rfl, rfl, C16.ht, atI_nat (j := 0) rfl, qa, _, rfl, .inr C16.ha, fun la nla => ?_⟩
      have sla := same_new (o := .lst (a.map V.str)) nla
      have C17 := C16.same sla
      refine ⟨_, rfl, t, _, 1, _, rfl, rfl, C17.ht, atI_nat (j := 1) rfl, _, rfl, t, _, 2, _, rfl, rfl, C17.ht, atI_nat (j := 2) rfl, by show 3 ≤ sizeLine; decide, fun y3 ny3 => ?_⟩
      have sy3 := same_new (o := .tup [.ref la, .ref qb, .int e]) ny3
      have C18 := C17.same sy3
      refine ⟨_, rfl, t, _, rfl, .inr C18.ht, fun y4 ny4 => ?_⟩
      have sy4 := same_new (o := .lst [V.ref qa, .ref qb, .int e]) ny4
      have C19 := C18.same sy4
      have R19 : ∀ x ∈ [V.ref y1, .ref y2, .ref y3, .ref y4], ∃ rv, RowAt K (upd (upd (upd (upd (upd H14 y1 (.tup [.ref qa, .ref qb, .int (-1)])) y2 (.tup [.ref qa, .ref qb, .bl (decide (V.int e = V.int 1))])) la (.lst (a.map V.str))) y3 (.tup [.ref la, .ref qb, .int e])) y4 (.lst [V.ref qa, .ref qb, .int e])) x rv ∧ shOk rv := by
        intro x hx
        simp only [List.mem_cons, List.not_mem_nil, or_false] at hx
        rcases hx with rfl | rfl | rfl | rfl
        · exact ⟨.tri (some a) (some b) (some (-1)), ⟨y1, _, _, _, rfl, SqT.of (((((sy2.trans sla).trans sy3).trans sy4)) _ _ upd_same), C19.shA Fx, C19.shB Fx, rfl⟩, okR.1, okR.2⟩
        · exact ⟨.tri (some a) (some b) none, ⟨y2, _, _, _, rfl, SqT.of (((sla.trans sy3).trans sy4) _ _ upd_same), C19.shA Fx, C19.shB Fx, ⟨_, rfl⟩⟩, okR.1, okR.2⟩
        · exact ⟨.tri none (some b) (some e), ⟨y3, _, _, _, rfl, SqT.of (sy4 _ _ upd_same), .inr (.inr ⟨la, _, rfl, (sy3.trans sy4) _ _ upd_same⟩), C19.shB Fx, rfl⟩, (fun r h => by cases h), okR.2⟩
        · exact ⟨.no, .inl (.inr (.inr ⟨y4, _, rfl, upd_same⟩)), trivial⟩
      have WA19 := WA14.same ((((sy1.trans sy2).trans sla).trans sy3).trans sy4)
      clear sy1 sy2 sla sy3 sy4 C18 C17 C16 C15 C14 WA14
      revert C19 R19 WA19
      generalize upd (upd (upd (upd (upd H14 y1 (.tup [.ref qa, .ref qb, .int (-1)])) y2 (.tup [.ref qa, .ref qb, .bl (decide (V.int e = V.int 1))])) la (.lst (a.map V.str))) y3 (.tup [.ref la, .ref qb, .int e])) y4 (.lst [V.ref qa, .ref qb, .int e]) = H19
      intro C19 R19 WA19
      refine ⟨by show 4 ≤ sizeLine; decide, fun c4 nc4 => ?_⟩
      have sc4 := same_new (o := .lst [V.ref y1, .ref y2, .ref y3, .ref y4]) nc4
      have c4W : c4 ≠ W2 := fun e => WA19.ne nc4 (by rw [e])
      refine ⟨c4, rfl, ⟨_, SqL.of upd_same⟩, for_it (walk_list (K := K) (a := c4) (xs := [V.ref y1, .ref y2, .ref y3, .ref y4])) (fun i σ H' => ∃ v2 v6, v2 = V.int (j : Int) ∧ σ = [some (.ref p), some (.ref r), some v2, some (.ref t), some (.ref ts), some (.ref W2), v6] ∧ BC K p r _ rvs t qa qb a b e H' ∧ WAt K p W2 (5 + i) H4 H' ∧ H' c4 = some (.lst [V.ref y1, .ref y2, .ref y3, .ref y4]) ∧ RowAt K H' (.ref ts) (.tri (some (a.take 1)) (some (b.take 1)) (some 0)) ∧ ∀ x ∈ [V.ref y1, .ref y2, .ref y3, .ref y4], ∃ rv, RowAt K H' x rv ∧ shOk rv) ⟨_, none, hj.symm, rfl, C19.same sc4, WA19.same sc4, upd_same, ?_, fun x hx => let ⟨rv, h1, h2⟩ := R19 x hx; ⟨rv, h1.same sc4, h2⟩⟩ (fun i σ H' _ h => by obtain ⟨_, _, _, _, _, _, h, _⟩ := h; exact SqL.of h) ?_ ?_⟩
      · exact hShort.same (WA19.same sc4).1
      · rintro i u σ H' H'' hi ⟨v2, v6, rfl, rfl, Ci, Wi, hc4, hS, hR⟩ ⟨rfl, hu⟩
        obtain ⟨rv, h1, h2⟩ := hR u (List.mem_of_getElem? hu)
        obtain ⟨_, _, wsi, hwi, _, _⟩ := id Wi
        refine ⟨_, rfl, .inl ⟨rfl, _, SqL.of hwi⟩, ?_⟩
        refine rd_mid Ci Fx h1 h2 rfl rfl rfl ?_
        intro l Hl nl sl _ R
        obtain ⟨wsl, a1, a2, a3⟩ := (Wi.same sl).app R (Wi.ne nl)
        have i4 : i < 4 := hi
        refine ⟨W2, wsl, _, rfl, rfl, a1, len_lt (by omega), _, _, rfl, rfl, (Ci.same sl).lst a1 rW2 W2p, a3, by rw [upd_ne c4W]; exact sl _ _ hc4, (hS.same sl).lst a1, fun x hx => ?_⟩
        obtain ⟨rv, h1, h2⟩ := hR x hx
        exact ⟨rv, (h1.same sl).lst a1, h2⟩
      · rintro σ H' ⟨v2, v6, rfl, rfl, Ci, Wi, _, hS, _⟩
        have Wi : WAt K p W2 9 H4 H' := Wi
        -- a longer row
        obtain ⟨_, _, ws9, hw9, _, _⟩ := id Wi
        refine ⟨_, rfl, .inl ⟨rfl, _, SqL.of hw9⟩, _, rfl, _, rfl, t, _, 0, _, rfl, rfl, Ci.ht, atI_nat (j := 0) rfl, by show 1 ≤ sizeLine; decide, fun o1 no1 => ?_⟩
        have so1 := same_new (o := .tup [.str "own"]) no1
        have D1 := Ci.same so1
        refine rd_own D1.ha hw.1 hw.2.1 (SqT.of upd_same) fun o2 G1 g1 ho2 => ?_
        have D2 := D1.same g1
        refine ⟨_, rfl, t, _, 1, _, rfl, rfl, D2.ht, atI_nat (j := 1) rfl, by show 1 ≤ sizeLine; decide, fun o3 no3 => ?_⟩
        have so3 := same_new (o := .tup [.str "own"]) no3
        have D3 := D2.same so3
        refine rd_own D3.hb (by omega) (by omega) (SqT.of upd_same) fun o4 G2 g2 ho4 => ?_
        have D4 := D3.same g2
        refine ⟨_, rfl, t, _, 0, _, rfl, rfl, D4.ht, atI_nat (j := 0) rfl, qa, _, rfl, .inr D4.ha, by show 3 ≤ sizeLine; decide, fun t6 nt6 => ?_⟩
        rw [List.length_map]
        have st6 := same_new (o := .tup [.ref o2, .ref o4, .int ((a.length : Nat) : Int)]) nt6
        have D5 := D4.same st6
        have wOwn : ∀ {z : List Str}, (∀ w ∈ z, w ∈ shW) → ∀ w ∈ z ++ [("own" : Str)], w ∈ shW := fun h w hw' => by
          rcases List.mem_append.mp hw' with h' | h'
          · exact h w h'
          · rw [List.mem_singleton.mp h']
            decide +kernel
        have wA := wOwn hw.2.2.2.1
        have wB := wOwn hw.2.2.2.2.1
        refine rd_app (rv := .tri (some (a ++ [("own" : Str)])) (some (b ++ [("own" : Str)])) (some ((a.length : Nat) : Int))) D5 Fx ⟨t6, _, _, _, rfl, SqT.of upd_same, ⟨o2, rfl, sqT_same ho2 ((so3.trans g2).trans st6), by rw [List.length_append]; show _ + 1 ≤ 100; omega, wA⟩, ⟨o4, rfl, sqT_same ho4 st6, by rw [List.length_append]; show _ + 1 ≤ 100; omega, wB⟩, rfl⟩ (shOk_of (fun r e => by cases e; exact wA) (fun r e => by cases e; exact wB)) ?_
        intro l1 G3 nl1 g3 _ RR1
        have sA := ((((so1.trans g1).trans so3).trans g2).trans st6).trans g3
        obtain ⟨wsA, b1, b2, WB⟩ := (Wi.same sA).app RR1 (Wi.ne (none_of ((((so1.trans g1).trans so3).trans g2).trans st6) nl1))
        refine ⟨W2, wsA, _, rfl, rfl, b1, len_lt (by omega), ?_⟩
        have E1 := (Ci.same sA).lst (ys := wsA ++ [.ref l1]) b1 rW2 W2p
        have hS1 := (hS.same sA).lst (ys := wsA ++ [.ref l1]) b1
        clear D5 D4 D3 D2 D1 sA
        revert WB E1 hS1
        generalize upd G3 W2 (.lst (wsA ++ [.ref l1])) = G4
        intro WB E1 hS1
        -- a row of four
        obtain ⟨_, _, ws10, hw10, _, _⟩ := id WB
        refine ⟨_, rfl, .inl ⟨rfl, _, SqL.of hw10⟩, _, rfl, by show 4 ≤ sizeLine; decide, fun u1 nu1 => ⟨by show 4 ≤ sizeLine; decide, fun u2 nu2 => ⟨by show 3 ≤ sizeLine; decide, fun t7 nt7 => ?_⟩⟩⟩
        have su1 := same_new (o := .tup [V.str "own", .str "seen", .str "any", .str "own"]) nu1
        have su2 := same_new (o := .tup [V.str "own", .str "own", .str "own", .str "own"]) nu2
        have st7 := same_new (o := .tup [.ref u1, .ref u2, .int 0]) nt7
        have E2 := E1.same ((su1.trans su2).trans st7)
        have wU1 : ∀ w ∈ (["own", "seen", "any", "own"] : List Str), w ∈ shW := by decide +kernel
        have wU2 : ∀ w ∈ (["own", "own", "own", "own"] : List Str), w ∈ shW := by decide +kernel
        refine rd_app (rv := .tri (some ["own", "seen", "any", "own"]) (some ["own", "own", "own", "own"]) (some 0)) E2 Fx ⟨t7, _, _, _, rfl, SqT.of upd_same, ⟨u1, rfl, SqT.of ((su2.trans st7) _ _ upd_same), by decide, wU1⟩, ⟨u2, rfl, SqT.of (st7 _ _ upd_same), by decide, wU2⟩, rfl⟩ (shOk_of (fun r e => by cases e; exact wU1) (fun r e => by cases e; exact wU2)) ?_
        intro l2 G5 nl2 g5 _ RR2
        have sB := ((su1.trans su2).trans st7).trans g5
        obtain ⟨wsB, c1, c2, WC⟩ := (WB.same sB).app RR2 (WB.ne (none_of ((su1.trans su2).trans st7) nl2))
        refine ⟨W2, wsB, _, rfl, rfl, c1, len_lt (by omega), ?_⟩
        have F1 := (E1.same sB).lst (ys := wsB ++ [.ref l2]) c1 rW2 W2p
        clear E2 sB
        revert WC F1
        generalize upd G5 W2 (.lst (wsB ++ [.ref l2])) = G6
        intro WC F1
        -- six ways more
        refine ⟨_, rfl, _, rfl, ?_⟩
        refine rd_app (rv := .no) F1 Fx (.inl (.inl rfl)) trivial ?_
        intro l3 G7 nl3 g7 _ RR3
        have F2 := F1.same g7
        refine ⟨_, rfl, _, rfl, 2, rfl, t, _, rfl, F2.ht, fun wh => ?_, fun _ p2 np2 => ?_⟩
        · have := wh.2
          rw [show HT.sIx [V.ref qa, V.ref qb, V.int e].length [V.ref qa, V.ref qb, V.int e].length (some (2 : Int)) = 2 from HT.sIx_nat _ _ 2] at this
          cases this
        have ec : cutV [V.ref qa, V.ref qb, V.int e] none (some 2) = [V.ref qa, V.ref qb] := by
          unfold cutV
          rw [HT.sIx_none, show HT.sIx [V.ref qa, V.ref qb, V.int e].length [V.ref qa, V.ref qb, V.int e].length (some (2 : Int)) = 2 from HT.sIx_nat _ _ 2]
          rfl
        rw [ec]
        have sp2 := same_new (o := .tup [V.ref qa, V.ref qb]) np2
        have F3 := F2.same sp2
        refine rd_app (rv := .no) F3 Fx (.inr ⟨p2, _, rfl, SqT.of upd_same, (show 2 ≠ 3 by decide)⟩) trivial ?_
        intro l4 G8 nl4 g8 _ RR4
        have F4 := F3.same g8
        refine ⟨_, rfl, r, _, rfl, .inl ⟨SqL.of F4.hr, fun q5 nq5 => ?_⟩⟩
        have sq5 := same_new (o := .tup vs) nq5
        have F5 := F4.same sq5
        refine ⟨_, rfl, r, _, rfl, SqL.of F5.hr, fun q6 nq6 => ?_⟩
        have sq6 := same_new (o := .lst vs.reverse) nq6
        have F6 := F5.same sq6
        refine ⟨_, rfl, by show 6 ≤ sizeLine; decide, fun D nD2 => ?_⟩
        have sD2 := same_new (o := .lst [V.ref l3, .ref l4, .ref q5, .ref q6, .ref r, .non]) nD2
        have sT : Same G6 (upd G8 q5 (.tup vs)) := ((g7.trans sp2).trans g8).trans sq5
        have r3 := RR3.same ((((sp2.trans g8).trans sq5).trans sq6).trans sD2)
        have r4 := RR4.same ((sq5.trans sq6).trans sD2)
        have r5 : RowsAt K p (upd (upd (upd G8 q5 (.tup vs)) q6 (.lst vs.reverse)) D (.lst [V.ref l3, .ref l4, .ref q5, .ref q6, .ref r, .non])) (.ref q5) none := .inr ⟨q5, vs, rfl, (sq6.trans sD2) _ _ upd_same⟩
        have F7 := F6.same sD2
        have lvs := Fx.l
        have r6 : RowsAt K p (upd (upd (upd G8 q5 (.tup vs)) q6 (.lst vs.reverse)) D (.lst [V.ref l3, .ref l4, .ref q5, .ref q6, .ref r, .non])) (.ref q6) (some rvs.reverse) := ⟨q6, vs.reverse, rfl, ne_pool F5.po nq6, sD2 _ _ upd_same, by rw [List.length_reverse]; omega, F7.hv.rev, fun y hy => Fx.o y (List.mem_reverse.mp hy)⟩
        have r7 : RowsAt K p (upd (upd (upd G8 q5 (.tup vs)) q6 (.lst vs.reverse)) D (.lst [V.ref l3, .ref l4, .ref q5, .ref q6, .ref r, .non])) (.ref r) (some rvs) := ⟨r, vs, rfl, rp, F7.hr, by omega, F7.hv, Fx.o⟩
        have hall : ∀ x ∈ [V.ref l3, .ref l4, .ref q5, .ref q6, .ref r, .non], ∃ rs, RowsAt K p (upd (upd (upd G8 q5 (.tup vs)) q6 (.lst vs.reverse)) D (.lst [V.ref l3, .ref l4, .ref q5, .ref q6, .ref r, .non])) x rs := by
          intro x hx
          simp only [List.mem_cons, List.not_mem_nil, or_false] at hx
          rcases hx with rfl | rfl | rfl | rfl | rfl | rfl
          · exact ⟨_, r3⟩
          · exact ⟨_, r4⟩
          · exact ⟨_, r5⟩
          · exact ⟨_, r6⟩
          · exact ⟨_, r7⟩
          · exact ⟨none, .inl rfl⟩
        have WD := WC.same ((sT.trans sq6).trans sD2)
        have hDD : (upd (upd (upd G8 q5 (.tup vs)) q6 (.lst vs.reverse)) D (.lst [V.ref l3, .ref l4, .ref q5, .ref q6, .ref r, .non])) D = some (.lst [V.ref l3, .ref l4, .ref q5, .ref q6, .ref r, .non]) := upd_same
        clear r3 r4 r5 r6 r7 sT F6 F5 F4 F3 F2
        have hz9 : [V.ref l3, .ref l4, .ref q5, .ref q6, .ref r, .non].length ≤ 6 := Nat.le_refl 6
        revert F7 hall WD hDD hz9
        generalize upd (upd (upd G8 q5 (.tup vs)) q6 (.lst vs.reverse)) D (.lst [V.ref l3, .ref l4, .ref q5, .ref q6, .ref r, .non]) = G9
        generalize [V.ref l3, .ref l4, .ref q5, .ref q6, .ref r, .non] = zs9
        intro F7 hall WD hDD hz9
        obtain ⟨_, _, ws11, hw11, lw11, _⟩ := id WD
        refine ⟨W2, D, ws11, zs9, rfl, rfl, hw11, hDD, Nat.le_of_lt (len_lt (by omega)), fun W3 nW3 => ?_⟩
        have WE := WD.new hw11 nW3 hz9 (fun x hx => by
          obtain ⟨rs', h'⟩ := hall x hx
          exact ⟨h'.neNew nW3, rs', h'⟩)
        have sW3 := same_new (o := .lst (ws11 ++ zs9)) nW3
        have F8 := F7.same sW3
        have rW3 : r ≠ W3 := ne_of_none F7.hr nW3
        have W3p : W3 ≠ p := ne_pool F7.po nW3
        have hw12 : (upd G9 W3 (.lst (ws11 ++ zs9))) W3 = some (.lst (ws11 ++ zs9)) := upd_same
        clear sW3 F7 hall WD hDD WC
        revert F8 WE hw12
        generalize upd G9 W3 (.lst (ws11 ++ zs9)) = G10
        intro WE F8 hw12
        -- the row turned
        refine ⟨_, rfl, .inl ⟨rfl, _, SqL.of hw12⟩, _, rfl, _, rfl, t, _, 1, _, rfl, rfl, F8.ht, atI_nat (j := 1) rfl, _, rfl, t, _, 0, _, rfl, rfl, F8.ht, atI_nat (j := 0) rfl, _, rfl, t, _, 2, _, rfl, rfl, F8.ht, atI_nat (j := 2) rfl, by show 3 ≤ sizeLine; decide, fun t8 nt8 => ?_⟩
        have st8 := same_new (o := .tup [.ref qb, .ref qa, .int e]) nt8
        have F9 := F8.same st8
        refine rd_app (rv := .tri (some b) (some a) (some e)) F9 Fx ⟨t8, _, _, _, rfl, SqT.of upd_same, F9.shB Fx, F9.shA Fx, rfl⟩ (shOk_of okR.2 okR.1) ?_
        intro l9 G11 nl9 g11 _ RR9
        have sE := st8.trans g11
        obtain ⟨wsE, e1, e2, WF⟩ := (WE.same sE).app RR9 (WE.ne (none_of st8 nl9))
        refine ⟨W3, wsE, _, rfl, rfl, e1, len_lt (by omega), ?_⟩
        have F10 := (F8.same sE).lst (ys := wsE ++ [.ref l9]) e1 rW3 W3p
        have hwE : (upd G11 W3 (.lst (wsE ++ [.ref l9]))) W3 = some (.lst (wsE ++ [.ref l9])) := upd_same
        clear F9 sE
        revert WF F10 hwE
        generalize upd G11 W3 (.lst (wsE ++ [.ref l9])) = G12
        intro WF F10 hwE
        -- one of them
        refine ⟨_, rfl, _, rfl, _, rfl, W3, _, rfl, .inl (SqL.of hwE), p, _, rfl, F10.po, ?_, ?_, fun d G13 d0 d1 hp13 k13 => ?_⟩
        · rw [List.length_append]
          show (0 : Int) < ((wsE.length + 1 : Nat) : Int)
          omega
        · rw [List.length_append]
          show ((wsE.length + 1 : Nat) : Int) < _
          omega
        obtain ⟨m, rfl⟩ : ∃ m : Nat, d = (m : Int) := ⟨d.toNat, by omega⟩
        have hm : m < (wsE ++ [V.ref l9]).length := by omega
        obtain ⟨sF, _, wsF, hwF, _, hF⟩ := WF
        rw [hwE] at hwF
        cases hwF
        obtain ⟨_, rs, hrs⟩ := hF _ (List.getElem_mem hm)
        refine ⟨W3, _, (m : Int), _, rfl, rfl, SqL.of (k13 _ _ W3p hwE), atI_nat (List.getElem?_eq_getElem hm), ?_⟩
        exact q _ rs G13 (KK.trans ((KeepP.same (S4.trans sF)).trans k13)) hp13 (hrs.keep k13 F10.po hp13)
end
end K1
/-! xs[a:b] = ys, a statement. -/
namespace Bk
open PySem PySem.Spec PyProof.Rows L2
def sSetSl (tv to : TE) (tl th : TO) : TS := fun D σ H => tv σ H fun v H1 => to σ H1 fun x H2 => tl σ H2 fun l H3 => th σ H3 fun u H4 => ∃ (a b : Addr) (i j : Int) (xs ys : List V), x = .ref a ∧ v = .ref b ∧ l = some i ∧ u = some j ∧ H4 a = some (.lst xs) ∧ H4 b = some (.lst ys) ∧ a ≠ b ∧ 0 ≤ i ∧ i ≤ j ∧ j ≤ xs.length ∧ xs.length + ys.length ≤ sizeLine ∧
  D.nx σ (upd H4 a (.lst (xs.take i.toNat ++ ys ++ xs.drop j.toNat)))
theorem ps_setSl {X : Cx} {o value : Expr} {lo hi : Option Expr} {p2 pos' pos : Pos} {tv to : TE} {tl th : TO} (ho : PE X o to) (hl : PO X lo tl) (hh : PO X hi th) (hv : PE X value tv) (hs : swapsWith value (some (.Subscript o (.Slice lo hi none p2) pos')) pos.line X.env = pure false) :
    PS X (.Assign [.Subscript o (.Slice lo hi none p2) pos'] value pos) (sSetSl tv to tl th) := by
  refine ⟨fun pins s σ H D I h => ?_⟩
  refine wpAny_Assign_Subscript (thn (hv.run pins s σ H _ I h) fun r s1 ⟨v, H1, I1, rv, q1⟩ => thn (ho.run pins s1 σ H1 _ I1 q1) fun u s2 ⟨x, H2, I2, rx, q2⟩ => ?_) hs
  refine wpAny_Slice (thn (hl.run pins s2 σ H2 _ I2 q2) fun vl s3 ⟨l, H3, I3, pl, q3⟩ => thn (hh.run pins s3 σ H3 _ I3 q3) fun vu s4 ⟨u', H4, I4, pu, q4⟩ => ?_)
  rw [evalPart_none]
  refine wpAny_pure ?_
  obtain ⟨a, b, i, j, xs, ys, rfl, rfl, rfl, rfl, ha, hb, hne, h0, hij, hj, hz, q⟩ := q4
  have I5 : Inv X pins σ H4 { s4 with heap := s4.heap.push { cls := .type "slice", data := .fields #[vl, vu, .none] } } := I4.kept (t' := s4.toks) fun b ob q => Heap.get?_push_of_some _ q
  cases rv
  cases rx
  cases pl with
  | int _ t1 =>
    cases pu with
    | int _ t2 =>
      exact set_slice I5 ha hb hne (Heap.IsSliceOf.new ..) ⟨t1, rfl⟩ ⟨t2, rfl⟩ h0 hij hj hz (fun s' I' => ⟨σ, _, I', q⟩)
end Bk
namespace K1
open PySem PySem.Spec PyProof.Rows L2 Bk
theorem scLaw : FnScope ["_law_script", "_law_cell", "_law_pool", "_law_words", "_law_places", "_law_rows", "_law_reason_here", "_law_reasons", "_law_values", "_law_value", "_law_found"] ["_law_script"] (defScope sLaw) := ⟨rfl, rfl, rfl, by decide +kernel, rfl, by decide +kernel, by decide +kernel⟩
def spLaw (K : PySem.W.Frag) : Sp := fun vs H Q _ => ∃ (a : Addr) (ns : List Int), vs = [.ref a] ∧ SqL K H a (ns.map V.int) ∧ ns.length ≤ 63 ∧ ∀ H', Q (.bl true) H'
theorem sound_V {wd : Wds} {n : Nat} (hn : n ≤ 3) {z : VV} (hs : ∀ z' rs, z = .two (some z') (some rs) → ∀ r ∈ rs, shOk r) : soundV wd n z = paperV wd n z := by
  cases z with
  | no => rfl
  | two z rs =>
    cases z with
    | none => rfl
    | some z =>
      cases rs with
      | none => rfl
      | some rs =>
        show (decide (reasonW wd = some z) && soundP wd.o n rs) = (decide (reasonW wd = some z) && paperL wd.o n rs)
        rw [sound_paper hn (hs z rs rfl)]
def RsAt (x : V) : Option Str → Prop
  | some s => x = .str s
  | none => x = .non ∨ ∃ i, x = .int i
theorem rs_opt : ∀ o : Option Str, RsAt (optV o) o
  | some _ => rfl
  | none => .inl rfl
theorem val_two {K : PySem.W.Frag} {p q : Addr} {H : Hp} {x y : V} : ∀ {z : Option Str} {rs : Option (List RV)}, SqT K H q [x, y] → RsAt x z → RowsAt K p H y rs → ValAt K H (.ref q) (.two z rs)
  | some _, some _, h, h1, ⟨l, vs, e, _, hl, n, hv, ho⟩ => ⟨q, x, y, rfl, h, h1, l, vs, e, hl, n, hv, ho⟩
  | none, some _, h, h1, ⟨l, vs, e, _, hl, n, hv, ho⟩ => ⟨q, x, y, rfl, h, h1, l, vs, e, hl, n, hv, ho⟩
  | some _, none, h, h1, h2 => ⟨q, x, y, rfl, h, h1, h2.elim .inl fun ⟨a, xs, e, t⟩ => .inr ⟨a, xs, e, SqT.of t⟩⟩
  | none, none, h, h1, h2 => ⟨q, x, y, rfl, h, h1, h2.elim .inl fun ⟨a, xs, e, t⟩ => .inr ⟨a, xs, e, SqT.of t⟩⟩
theorem val_ok {K : PySem.W.Frag} {p : Addr} {H : Hp} {y : V} {z : Option Str} {rs : Option (List RV)} (h : RowsAt K p H y rs) : ∀ z' rs', VV.two z rs = .two (some z') (some rs') → ∀ r ∈ rs', shOk r := by
  intro z' rs' e
  cases e
  obtain ⟨_, _, _, _, _, _, _, ho⟩ := h
  exact ho
section
variable {P : Program} {w : World} {K : PySem.W.Frag} {mg : Str → Option Value} {base : Heap} {CB CE CP fQ : Addr}
theorem ok_law {f fD fT fW fM fH fN fG fS fV : Addr} {fd fdD fdT fdW fdM fdH fdN fdG fdS fdV : FuncData} (F : Fun K "law" "law" sLaw f fd) (T : Tx mg)
    (mD : mg "_law_draw" = some (.ref fD)) (kD : PySem.W.keepIn K (.ref fD) = true) (bD : Binds K fdD ["_law_script", "_law_k"] []) (GD : FnOk P w K mg base CX0 1 fD fdD ["_law_script", "_law_k"] (spDraw K))
    (mT : mg "_law_take" = some (.ref fT)) (kT : PySem.W.keepIn K (.ref fT) = true) (bT : Binds K fdT ["_law_pool", "_law_many"] []) (GT : FnOk P w K mg base CX0 1 fT fdT ["_law_pool", "_law_many"] spTake)
    (mW : mg "_law_new_words" = some (.ref fW)) (kW : PySem.W.keepIn K (.ref fW) = true) (bW : Binds K fdW ["_law_pool"] []) (GW : FnOk P w K mg base CX0 2 fW fdW ["_law_pool"] spNewWords)
    (mM : mg "_law_made_book" = some (.ref fM)) (kM : PySem.W.keepIn K (.ref fM) = true) (bM : Binds K fdM ["_law_words"] []) (GM : FnOk P w K mg base CX0 4 fM fdM ["_law_words"] (spMade K CB))
    (mH : mg "_law_hand_rows" = some (.ref fH)) (kH : PySem.W.keepIn K (.ref fH) = true) (bH : Binds K fdH ["_law_pool", "_law_words", "_law_places"] []) (GH : FnOk P w K mg base CX0 3 fH fdH ["_law_pool", "_law_words", "_law_places"] (spHand K))
    (mN : mg "_law_reason" = some (.ref fN)) (kN : PySem.W.keepIn K (.ref fN) = true) (bN : Binds K fdN ["_law_words"] []) (GN : FnOk P w K mg base CX0 1 fN fdN ["_law_words"] (spLReason K))
    (mG : mg "_law_bent_rows" = some (.ref fG)) (kG : PySem.W.keepIn K (.ref fG) = true) (bG : Binds K fdG ["_law_pool", "_law_rows"] []) (GG : FnOk P w K mg base CX0 2 fG fdG ["_law_pool", "_law_rows"] (spBent K))
    (mS : mg "is_sound_paper" = some (.ref fS)) (kS : PySem.W.keepIn K (.ref fS) = true) (bS : Binds K fdS ["book", "places", "value"] []) (GS : FnOk P w K mg base (CX P w) 6 fS fdS ["book", "places", "value"] (spSound K CB))
    (mV : mg "_law_is_paper" = some (.ref fV)) (kV : PySem.W.keepIn K (.ref fV) = true) (bV : Binds K fdV ["_law_words", "_law_places", "_law_value"] []) (GV : FnOk P w K mg base CX0 3 fV fdV ["_law_words", "_law_places", "_law_value"] (spIsPaper K)) :
    FnOk P w K mg base CX0 7 f fd ["_law_script"] (spLaw K) := by
  refine F.ok scLaw (fun vs H Q E h => ?_) (fun cdv A outer s H vs Q E hr h => ?_)
  · obtain ⟨a, ns, rfl, _⟩ := h
    rfl
  · obtain ⟨a, ns, rfl, hS, hlen, q⟩ := h
    have hr1 : Room 1 _ := hr.mono (by decide)
    have hr2 : Room 2 _ := hr.mono (by decide)
    have hr3 : Room 3 _ := hr.mono (by decide)
    have hr4 : Room 4 _ := hr.mono (by decide)
    refine ⟨_, pss_cons (ps_for PassesOwn.never rfl (pi_range1 (by rfl) T.range (pa_cons (pe_callB (call_max2 rfl) (by rfl) T.max boot_max (pa_cons pe_int (pa_cons (pe_callB (call_min2 rfl) (by rfl) T.min boot_min (pa_cons pe_int (pa_cons (pe_callB call_len_seq (by rfl) T.len PySem.boot_len (pa_cons (pv 0) pa_nil)) pa_nil))) pa_nil))) pa_nil)) (pg_name (i := 1) scLaw.nd rfl (Or.inl rfl))
        (pss_cons (ps_set (i := 2) scLaw.nd rfl (Or.inl rfl) (pe_call GD hr1 (by rfl) mD kD bD .nil pass0 (pa_cons (pv 0) (pa_cons (pv 1) pa_nil)))) <|
        pss_cons (ps_set (i := 3) scLaw.nd rfl (Or.inl rfl) (pe_call GW hr2 (by rfl) mW kW bW .nil pass0 (pa_cons (pv 2) pa_nil))) <|
        pss_cons (ps_if (pt_cmpR op_gt (pe_call GT hr1 (by rfl) mT kT bT .nil pass0 (pa_cons (pv 2) (pa_cons pe_int pa_nil))) pe_int (nomark _))
          (pss_one (ps_setSl (pv 3) (po_some pe_int) (po_some pe_int) (pe_ix ix_list (pe_lst (pa_cons (pe_lst (pa_cons pe_str (pa_cons pe_str pa_nil))) (pa_cons (pe_lst (pa_cons pe_str (pa_cons pe_str pa_nil))) (pa_cons (pe_lst (pa_cons pe_str (pa_cons pe_str pa_nil))) pa_nil)))) (pe_call GT hr1 (by rfl) mT kT bT .nil pass0 (pa_cons (pv 2) (pa_cons pe_int pa_nil))) (fun _ _ => rfl)) (by rfl))) pss_nil) <|
        pss_cons (ps_set (i := 4) scLaw.nd rfl (Or.inl rfl) (pe_op op_add pe_int (pe_call GT hr1 (by rfl) mT kT bT .nil pass0 (pa_cons (pv 2) (pa_cons pe_int pa_nil))))) <|
        pss_cons (ps_set (i := 5) scLaw.nd rfl (Or.inl rfl) (pe_call GH hr3 (by rfl) mH kH bH .nil pass0 (pa_cons (pv 2) (pa_cons (pv 3) (pa_cons (pv 4) pa_nil))))) <|
        pss_cons (ps_set (i := 6) scLaw.nd rfl (Or.inl rfl) (pe_call GN hr1 (by rfl) mN kN bN .nil pass0 (pa_cons (pv 3) pa_nil))) <|
        pss_cons (ps_set (i := 7) scLaw.nd rfl (Or.inl rfl) (pe_lst (pa_cons (pv 6) (pa_cons (pv 6) (pa_cons (pv 6) (pa_cons pe_str (pa_cons pe_str (pa_cons pe_str (pa_cons pe_non (pa_cons pe_int pa_nil)))))))))) <|
        pss_cons (ps_set (i := 8) scLaw.nd rfl (Or.inl rfl) (pe_lst (pa_cons (pe_tup (pa_cons (pv 6) (pa_cons (pv 5) pa_nil))) (pa_cons
            (pe_tup (pa_cons (pv 6) (pa_cons (pe_call GG hr2 (by rfl) mG kG bG .nil pass0 (pa_cons (pv 2) (pa_cons (pv 5) pa_nil))) pa_nil))) (pa_cons
            (pe_tup (pa_cons (pe_ix ix_list (pv 7) (pe_call GT hr1 (by rfl) mT kT bT .nil pass0 (pa_cons (pv 2) (pa_cons pe_int pa_nil))) (fun _ _ => rfl)) (pa_cons (pv 5) pa_nil))) pa_nil))))) <|
        pss_cons (ps_set (i := 8) scLaw.nd rfl (Or.inl rfl) (pe_op op_cat (pv 8) (pe_lst (pa_cons (pe_ix ix_list (pe_lst (pa_cons (pe_lst (pa_cons (pv 6) (pa_cons (pv 5) pa_nil))) (pa_cons (pe_tup (pa_cons (pv 6) pa_nil)) (pa_cons (pe_tup (pa_cons (pv 6) (pa_cons (pv 5) (pa_cons pe_int pa_nil)))) (pa_cons pe_non (pa_cons (pv 5) (pa_cons pe_str pa_nil)))))))
            (pe_call GT hr1 (by rfl) mT kT bT .nil pass0 (pa_cons (pv 2) (pa_cons pe_int pa_nil))) (fun _ _ => rfl)) pa_nil)))) <|
        pss_one (ps_for PassesOwn.never rfl (pi_list (pv 8)) (pg_name (i := 9) scLaw.nd rfl (Or.inl rfl))
          (pss_cons (ps_set (i := 10) scLaw.nd rfl (Or.inl rfl) (pe_call GS hr (by rfl) mS kS bS .nil passL (pa_cons (pe_call GM hr4 (by rfl) mM kM bM .nil pass0 (pa_cons (pv 3) pa_nil)) (pa_cons (pv 4) (pa_cons (pv 9) pa_nil))))) <|
          pss_one (ps_if (PW.pt (pw_or (pt_not (pt_val (pe_callB call_isi (by rfl) T.isi (by decide +kernel) (pa_cons (pv 10) (pa_cons (pe_bltn (v := .ty "bool") (u := .type "bool") (by rfl) T.bool (by decide +kernel) rfl) pa_nil)))))
            (pw_or1 (pt_cmpR op_ne (pv 10) (pe_call GV hr3 (by rfl) mV kV bV .nil pass0 (pa_cons (pv 3) (pa_cons (pv 4) (pa_cons (pv 9) pa_nil)))) (nomark _))))) (pss_one (ps_ret pe_bl)) pss_nil)))))
      (pss_one (ps_ret pe_bl)), ?_⟩
    refine ⟨_, rfl, a, _, rfl, .inl hS, _, _, rfl, _, _, rfl, ?_⟩
    rw [List.length_map]
    generalize hN : (if (if ((ns.length : Nat) : Int) < (4 : Int) then ((ns.length : Nat) : Int) else (4 : Int)) > 1 then (if ((ns.length : Nat) : Int) < (4 : Int) then ((ns.length : Nat) : Int) else (4 : Int)) else (1 : Int)) = N
    have hN6 : 1 ≤ N ∧ N ≤ 4 := by
      rw [← hN]
      constructor
      · split
        · omega
        · omega
      · split
        · split <;> omega
        · omega
    refine ⟨N, rfl, by omega, by omega, ?_⟩
    refine for_range (lo := 0) (n := N.toNat) (fun i σ H' => ∃ o1 o2 o3 o4 o5 o6 o7 o8 o9 o10, σ = [some (.ref a), o1, o2, o3, o4, o5, o6, o7, o8, o9, o10] ∧ Same H H') ⟨_, _, _, _, _, _, _, _, _, _, rfl, Same.refl H⟩ ?_ ?_
    · rintro i σ H0 hi ⟨o1, o2, o3, o4, o5, o6, o7, o8, o9, o10, rfl, sm0⟩
      refine ⟨_, rfl, _, rfl, a, ns, i, by rw [Int.zero_add]; rfl, seq_same sm0 hS, by omega, by omega, fun p H1 np s1 hp1 => ?_⟩
      have npH : H p = none := none_of sm0 np
      have sm1 := sm0.trans s1
      refine ⟨_, rfl, p, rfl, hp1, fun l wd0 H2 hok0 nl hp2 k2 hl => ?_⟩
      have sm2 : Same H H2 := same_keep sm1 npH k2
      have nlp : l ≠ p := by
        obtain ⟨_, _, e, _⟩ := hp1
        exact (ne_of_none e nl).symm
      have nlH : H l = none := none_of sm1 nl
      refine ⟨_, rfl, p, 4, rfl, hp2, by decide, by decide, fun d H3 d0 d1 hp3 k3 => ⟨_, _, rfl, rfl, _, rfl, ?_⟩⟩
      have sm3 := same_keep sm2 npH k3
      have hl3 := k3 _ _ nlp hl
      refine ite2 (fun c => ?_) (fun c => ?_)
      case' refine_1 =>
        refine ⟨by show 2 ≤ sizeLine; decide, fun la nla => ⟨by show 2 ≤ sizeLine; decide, fun lb nlb => ⟨by show 2 ≤ sizeLine; decide, fun lc nlc => ⟨by show 3 ≤ sizeLine; decide, fun ld nld => ?_⟩⟩⟩⟩
        have sla := same_new (o := .lst [V.str "apart", .str "sole"]) nla
        have slb := same_new (o := .lst [V.str "apart", .str "first"]) nlb
        have slc := same_new (o := .lst [V.str "ladder", .str "special"]) nlc
        have sld := same_new (o := .lst [V.ref la, .ref lb, .ref lc]) nld
        have sA := ((sla.trans slb).trans slc).trans sld
        have hpA := hp3.same sA
        have ldp : ld ≠ p := ne_pool (hp3.same ((sla.trans slb).trans slc)) nld
        have lap : la ≠ p := ne_pool hp3 nla
        have lbp : lb ≠ p := ne_pool (hp3.same sla) nlb
        have lcp : lc ≠ p := ne_pool (hp3.same (sla.trans slb)) nlc
        have lal : l ≠ la := ne_of_none hl3 nla
        have lbl : l ≠ lb := ne_of_none (sla _ _ hl3) nlb
        have lcl : l ≠ lc := ne_of_none ((sla.trans slb) _ _ hl3) nlc
        refine ⟨_, rfl, p, 3, rfl, hpA, by decide, by decide, fun e H4 e0 e1 hp4 k4 => ?_⟩
        obtain ⟨m, rfl⟩ : ∃ m : Nat, e = (m : Int) := ⟨e.toNat, by omega⟩
        have key : ∃ (b : Addr) (c d : Str), [V.ref la, V.ref lb, V.ref lc][m]? = some (.ref b) ∧ H4 b = some (.lst [.str c, .str d]) ∧ c ∈ lW ∧ d ∈ cW ∧ l ≠ b := by
          have : m = 0 ∨ m = 1 ∨ m = 2 := by omega
          rcases this with rfl | rfl | rfl
          · exact ⟨la, _, _, rfl, k4 _ _ lap (((slb.trans slc).trans sld) _ _ upd_same), by decide +kernel, by decide +kernel, lal⟩
          · exact ⟨lb, _, _, rfl, k4 _ _ lbp ((slc.trans sld) _ _ upd_same), by decide +kernel, by decide +kernel, lbl⟩
          · exact ⟨lc, _, _, rfl, k4 _ _ lcp (sld _ _ upd_same), by decide +kernel, by decide +kernel, lcl⟩
        obtain ⟨b, c1, c2, hb1, hb2, hb3, hb4, hb5⟩ := key
        have hl4 := k4 _ _ nlp (sA _ _ hl3)
        refine ⟨ld, _, (m : Int), _, rfl, rfl, SqL.of (k4 _ _ ldp upd_same), atI_nat hb1, _, rfl, 1, rfl, 3, rfl, l, b, 1, 3, _, _, rfl, rfl, rfl, rfl, hl4, hb2, hb5, by decide, by decide, by show (3 : Int) ≤ 5; decide, by show 7 ≤ sizeLine; decide, ?_⟩
        have pk : ∃ (wd : Wds) (H5 : Hp), wd.Ok ∧ H5 l = some (.lst (wd.list.map V.str)) ∧ Pool H5 p ∧ Same H H5 ∧ H5 = upd H4 l (.lst ((wd0.list.map V.str).take (1 : Int).toNat ++ [.str c1, .str c2] ++ (wd0.list.map V.str).drop (3 : Int).toNat)) :=
          ⟨⟨wd0.o, c1, c2, wd0.n, wd0.e⟩, _, ⟨hok0.1, hb3, hb4, hok0.2.2.2.1, hok0.2.2.2.2⟩, upd_same, pool_upd hp4 nlp, same_upd (same_keep (sm3.trans sA) npH k4) nlH, rfl⟩
        obtain ⟨wd, H5, hok, hl5, hp5, sm5, hH5⟩ := pk
        rw [← hH5]
        clear hH5 hl4 hb1 hb2 hb3 hb4 hb5 sA sla slb slc sld hpA k4 hp4 hl3
      case' refine_2 =>
        have pk : ∃ (wd : Wds), wd.Ok ∧ H3 l = some (.lst (wd.list.map V.str)) := ⟨wd0, hok0, hl3⟩
        obtain ⟨wd, hok, hl5⟩ := pk
        have hp5 := hp3
        have sm5 := sm3
        clear hl3
        revert hl5 hp5 sm5
        generalize H3 = H5
        intro hl5 hp5 sm5
      all_goals
        clear hl hp2 k2 hp3 k3
        -- the places
        refine ⟨_, rfl, p, 3, rfl, hp5, by decide, by decide, fun d6 H6 d60 d61 hp6 k6 => ?_⟩
        obtain ⟨n, hn1, hn3, hn⟩ : ∃ n : Nat, 1 ≤ n ∧ n ≤ 3 ∧ 1 + d6 = (n : Int) := ⟨(1 + d6).toNat, by omega, by omega, by omega⟩
        have hl6 := k6 _ _ nlp hl5
        have sm6 := same_keep sm5 npH k6
        refine ⟨_, _, rfl, rfl, ?_⟩
        -- the rows
        refine ⟨_, rfl, _, rfl, _, rfl, p, l, wd, n, (by show [V.ref p, V.ref l, V.int (1 + d6)] = _; rw [hn]), hp6, hl6, nlp, hn3, fun r H7 nr rp hR => ?_⟩
        have hl7 := hR.k _ _ nlp hl6
        have sm7 := same_keep sm6 npH hR.k
        have hp7 := hR.po
        refine ⟨_, rfl, l, wd, rfl, SqL.of hl7, hok, fun H8 s8 => ?_⟩
        have hR8 : HR K p r 2200 H8 H8 := by
          obtain ⟨vs, rvs, a1, a2, a3, a4⟩ := hR.ro
          exact ⟨KeepP.refl _ _, hp7.same s8, vs, rvs, s8 _ _ a1, a2.imp fun _ _ x => x.same s8, a3, a4⟩
        have hl8 := s8 _ _ hl7
        have sm8 := sm7.trans s8
        clear hR hp7 hl7 hl6 hp6 k6 hl5 hp5
        -- the reasons
        refine ⟨_, rfl, _, rfl, _, rfl, by show 8 ≤ sizeLine; decide, fun rr nrr => ?_⟩
        have srr := same_new (o := .lst [optV (reasonW wd), optV (reasonW wd), optV (reasonW wd), .str "apart", .str "first", .str "ladder", .non, .int 0]) nrr
        have rrp : rr ≠ p := ne_pool hR8.po nrr
        have hrr : (upd H8 rr (.lst [optV (reasonW wd), optV (reasonW wd), optV (reasonW wd), .str "apart", .str "first", .str "ladder", .non, .int 0])) rr = some (.lst [optV (reasonW wd), optV (reasonW wd), optV (reasonW wd), .str "apart", .str "first", .str "ladder", .non, .int 0]) := upd_same
        have hR9 : HR K p r 2200 _ _ := hR8.same srr
        have hl9 := srr _ _ hl8
        have sm9 := sm8.trans srr
        have rsn : ∀ x ∈ [optV (reasonW wd), optV (reasonW wd), optV (reasonW wd), .str "apart", .str "first", .str "ladder", .non, .int 0], ∃ z, RsAt x z := by
          intro x hx
          simp only [List.mem_cons, List.not_mem_nil, or_false] at hx
          rcases hx with rfl | rfl | rfl | rfl | rfl | rfl | rfl | rfl
          · exact ⟨_, rs_opt _⟩
          · exact ⟨_, rs_opt _⟩
          · exact ⟨_, rs_opt _⟩
          · exact ⟨some _, rfl⟩
          · exact ⟨some _, rfl⟩
          · exact ⟨some _, rfl⟩
          · exact ⟨none, .inl rfl⟩
          · exact ⟨none, .inr ⟨_, rfl⟩⟩
        have rlen : [optV (reasonW wd), optV (reasonW wd), optV (reasonW wd), V.str "apart", .str "first", .str "ladder", .non, .int 0].length = 8 := rfl
        obtain ⟨_, po9, vs, rvs, hr9, hv9, hg9, hlen9⟩ := hR9
        clear hR8 hl8 srr
        revert hrr po9 hr9 hv9 hl9 sm9 rsn rlen
        generalize [optV (reasonW wd), optV (reasonW wd), optV (reasonW wd), V.str "apart", .str "first", .str "ladder", .non, .int 0] = rsl
        generalize upd H8 rr (.lst rsl) = H9
        intro hrr hl9 sm9 rsn rlen po9 hr9 hv9
        have fo : ∀ y ∈ rvs, shOk y := fun y hy => (hg9 y hy).ok
        -- the first values
        refine ⟨_, rfl, _, rfl, by show 2 ≤ sizeLine; decide, fun t1 nt1 => ?_⟩
        have st1 := same_new (o := .tup [optV (reasonW wd), .ref r]) nt1
        have t1p : t1 ≠ p := ne_pool po9 nt1
        have po10 := po9.same st1
        refine ⟨_, rfl, _, rfl, _, rfl, p, r, rfl, rp, ⟨KeepP.refl _ _, po10, vs, rvs, st1 _ _ hr9, hv9.imp fun _ _ x => x.same st1, hg9, hlen9⟩, fun bv brs H10 k10 hp10 hB => ?_⟩
        refine ⟨by show 2 ≤ sizeLine; decide, fun t2 nt2 => ?_⟩
        have st2 := same_new (o := .tup [optV (reasonW wd), bv]) nt2
        have t2p : t2 ≠ p := ne_pool hp10 nt2
        have po11 := hp10.same st2
        refine ⟨_, rfl, _, rfl, p, 8, rfl, po11, by decide, by decide, fun d12 H12 d120 d121 hp12 k12 => ?_⟩
        obtain ⟨m, rfl⟩ : ∃ m : Nat, d12 = (m : Int) := ⟨d12.toNat, by omega⟩
        have k912 : KeepP p H9 H12 := (KeepP.same st1).trans (k10.trans ((KeepP.same st2).trans k12))
        have hm : m < rsl.length := by omega
        obtain ⟨z3, hz3⟩ := rsn _ (List.getElem_mem hm)
        refine ⟨rr, _, (m : Int), _, rfl, rfl, SqL.of (k912 _ _ rrp hrr), atI_nat (List.getElem?_eq_getElem hm), ?_⟩
        generalize rsl[m] = x3 at hz3
        refine ⟨_, rfl, by show 2 ≤ sizeLine; decide, fun t3 nt3 => ⟨by show 3 ≤ sizeLine; decide, fun W nW => ?_⟩⟩
        have st3 := same_new (o := .tup [x3, .ref r]) nt3
        have sW := same_new (o := .lst [V.ref t1, .ref t2, .ref t3]) nW
        have Wp : W ≠ p := ne_pool (hp12.same st3) nW
        have t3p : t3 ≠ p := ne_pool hp12 nt3
        have k913 := k912.trans (KeepP.same (st3.trans sW))
        have h1 := k12 _ _ t1p (st2 _ _ (k10 _ _ t1p (show (upd H9 t1 (.tup [optV (reasonW wd), .ref r])) t1 = _ from upd_same)))
        have h1 := (st3.trans sW) _ _ h1
        have h2 := (st3.trans sW) _ _ (k12 _ _ t2p (show (upd H10 t2 (.tup [optV (reasonW wd), bv])) t2 = _ from upd_same))
        have h3 := sW _ _ (show (upd H12 t3 (.tup [x3, .ref r])) t3 = _ from upd_same)
        have po13 := hp12.same (st3.trans sW)
        have hr13 : RowsAt K p (upd (upd H12 t3 (.tup [x3, .ref r])) W (.lst [V.ref t1, .ref t2, .ref t3])) (.ref r) (some rvs) := ⟨r, vs, rfl, rp, k913 _ _ rp hr9, by omega, hv9.imp fun _ _ x => x.keep k913 po9 po13, fo⟩
        have hb13 := ((hB.same st2).keep k12 po11 hp12).same (st3.trans sW)
        have hW13 : (upd (upd H12 t3 (.tup [x3, .ref r])) W (.lst [V.ref t1, .ref t2, .ref t3])) W = _ := upd_same
        have hl13 := k913 _ _ nlp hl9
        have sm13 := same_keep sm9 npH k913
        clear st1 po10 k10 hp10 hB st2 po11 k12 hp12 k912 st3 sW k913
        revert h1 h2 h3 po13 hr13 hb13 hW13 hl13 sm13
        generalize upd (upd H12 t3 (.tup [x3, .ref r])) W (.lst [V.ref t1, .ref t2, .ref t3]) = H13
        intro h1 h2 h3 po13 hr13 hb13 hW13 hl13 sm13
        -- one value more
        refine ⟨_, rfl, _, rfl, _, rfl, by show 2 ≤ sizeLine; decide, fun m1 nm1 => ?_⟩
        have sm1' := same_new (o := .lst [optV (reasonW wd), .ref r]) nm1
        refine ⟨_, rfl, by show 1 ≤ sizeLine; decide, fun m2 nm2 => ?_⟩
        have sm2' := same_new (o := .tup [optV (reasonW wd)]) nm2
        refine ⟨_, rfl, _, rfl, by show 3 ≤ sizeLine; decide, fun m3 nm3 => ?_⟩
        have sm3' := same_new (o := .tup [optV (reasonW wd), .ref r, .int 0]) nm3
        refine ⟨_, rfl, by show 6 ≤ sizeLine; decide, fun ml nml => ?_⟩
        have sml := same_new (o := .lst [V.ref m1, .ref m2, .ref m3, .non, .ref r, .str "apart"]) nml
        have po14 := po13.same (((sm1'.trans sm2').trans sm3').trans sml)
        have m1p : m1 ≠ p := ne_pool po13 nm1
        have m2p : m2 ≠ p := ne_pool (po13.same sm1') nm2
        have m3p : m3 ≠ p := ne_pool (po13.same (sm1'.trans sm2')) nm3
        have mlp : ml ≠ p := ne_pool (po13.same ((sm1'.trans sm2').trans sm3')) nml
        refine ⟨_, rfl, p, 6, rfl, po14, by decide, by decide, fun d15 H15 d150 d151 hp15 k15 => ?_⟩
        obtain ⟨m', rfl⟩ : ∃ m : Nat, d15 = (m : Int) := ⟨d15.toNat, by omega⟩
        have hm' : m' < [V.ref m1, .ref m2, .ref m3, .non, .ref r, .str "apart"].length := by show m' < 6; omega
        have k1315 : KeepP p H13 H15 := (KeepP.same (((sm1'.trans sm2').trans sm3').trans sml)).trans k15
        have hr15 := hr13.keep k1315 po13 hp15
        have hb15 := hb13.keep k1315 po13 hp15
        have odd : ∀ x ∈ [V.ref m1, .ref m2, .ref m3, .non, .ref r, .str "apart"], ValAt K H15 x .no := by
          intro x hx
          simp only [List.mem_cons, List.not_mem_nil, or_false] at hx
          rcases hx with rfl | rfl | rfl | rfl | rfl | rfl
          · exact .inl (.inr (.inr ⟨m1, _, rfl, k15 _ _ m1p (((sm2'.trans sm3').trans sml) _ _ upd_same)⟩))
          · exact .inr ⟨m2, _, rfl, SqT.of (k15 _ _ m2p ((sm3'.trans sml) _ _ upd_same)), (show 1 ≠ 2 by decide)⟩
          · exact .inr ⟨m3, _, rfl, SqT.of (k15 _ _ m3p (sml _ _ upd_same)), (show 3 ≠ 2 by decide)⟩
          · exact .inl (.inl rfl)
          · obtain ⟨l', vs', e', _, hl', _⟩ := hr15
            exact .inl (.inr (.inr ⟨l', vs', e', hl'⟩))
          · exact .inl (.inr (.inl ⟨_, rfl⟩))
        have hy := odd _ (List.getElem_mem hm')
        refine ⟨ml, _, (m' : Int), _, rfl, rfl, SqL.of (k15 _ _ mlp (show _ = some (HO.lst [V.ref m1, .ref m2, .ref m3, .non, .ref r, .str "apart"]) from upd_same)), atI_nat (List.getElem?_eq_getElem hm'), ?_⟩
        generalize [V.ref m1, .ref m2, .ref m3, .non, .ref r, .str "apart"][m'] = y at hy
        refine ⟨by show 1 ≤ sizeLine; decide, fun z0 nz => ?_⟩
        have sz := same_new (o := .lst [y]) nz
        refine ⟨W, z0, _, _, rfl, rfl, sz _ _ (k1315 _ _ Wp hW13), upd_same, by show 4 ≤ sizeLine; decide, fun U nU => ?_⟩
        have sU := same_new (o := .lst ([V.ref t1, .ref t2, .ref t3] ++ [y])) nU
        have sz2 := sz.trans sU
        have v1 : ValAt K _ (.ref t1) (.two (reasonW wd) (some rvs)) := (val_two (SqT.of (k1315 _ _ t1p h1)) (rs_opt _) hr15).same sz2
        have v2 : ValAt K _ (.ref t2) (.two (reasonW wd) brs) := (val_two (SqT.of (k1315 _ _ t2p h2)) (rs_opt _) hb15).same sz2
        have v3 : ValAt K _ (.ref t3) (.two z3 (some rvs)) := (val_two (SqT.of (k1315 _ _ t3p h3)) hz3 hr15).same sz2
        have v4 := hy.same sz2
        have vall : ∀ x ∈ [V.ref t1, .ref t2, .ref t3] ++ [y], ∃ zz, ValAt K (upd (upd H15 z0 (.lst [y])) U (.lst ([V.ref t1, .ref t2, .ref t3] ++ [y]))) x zz ∧ ∀ z' rs', zz = .two (some z') (some rs') → ∀ r ∈ rs', shOk r := by
          intro x hx
          simp only [List.cons_append, List.nil_append, List.mem_cons, List.not_mem_nil, or_false] at hx
          rcases hx with rfl | rfl | rfl | rfl
          · exact ⟨_, v1, val_ok hr15⟩
          · exact ⟨_, v2, val_ok hb15⟩
          · exact ⟨_, v3, val_ok hr15⟩
          · exact ⟨_, v4, fun _ _ e => by cases e⟩
        have hU : (upd (upd H15 z0 (.lst [y])) U (.lst ([V.ref t1, .ref t2, .ref t3] ++ [y]))) U = _ := upd_same
        have hl16 := sz2 _ _ (k1315 _ _ nlp hl13)
        have sm16 := (same_keep sm13 npH k1315).trans sz2
        clear v1 v2 v3 v4 sz2 sU sz hr15 hb15 odd hy k1315 h1 h2 h3
        revert vall hU hl16 sm16
        generalize [V.ref t1, .ref t2, .ref t3] ++ [y] = us
        generalize upd (upd H15 z0 (.lst [y])) U (.lst us) = H16
        intro vall hU hl16 sm16
        -- each of them
        refine ⟨_, rfl, U, rfl, ⟨_, SqL.of hU⟩, for_it (walk_list (K := K) (a := U) (xs := us)) (fun i' σ H' => ∃ o9 o10, σ = [some (.ref a), some (.int (0 + i)), some (.ref p), some (.ref l), some (.int (1 + d6)), some (.ref r), some (optV (reasonW wd)), some (.ref rr), some (.ref U), o9, o10] ∧ Same H16 H') ⟨_, _, rfl, Same.refl _⟩ (fun i' σ H' _ h => by obtain ⟨_, _, _, h⟩ := h; exact SqL.of (h _ _ hU)) ?_ ?_⟩
        · rintro i' u σ H17 H18 hi' ⟨o9, o10, rfl, s17⟩ ⟨rfl, hu⟩
          obtain ⟨zz, hzz, hzo⟩ := vall u (List.mem_of_getElem? hu)
          have hl18 := s17 _ _ hl16
          refine ⟨_, rfl, l, wd, rfl, SqL.of hl18, hok, fun b H19 nb s19 hb => ?_⟩
          refine ⟨_, rfl, _, rfl, b, wd, n, u, zz, (by show [V.ref b, V.int (1 + d6), u] = _; rw [hn]), hb, hok, hn1, hn3, hzz.same (s17.trans s19), fun H20 s20 => ?_⟩
          refine ⟨_, rfl, _, _, _, _, true, rfl, .ty "bool", .base (.bl _), kit_ty (by decide +kernel), true, rfl, iteF ?_⟩
          refine ⟨_, rfl, _, rfl, _, rfl, _, rfl, l, wd, n, u, zz, (by show [V.ref l, V.int (1 + d6), u] = _; rw [hn]), (s19.trans s20) _ _ hl18, hok, hn3, hzz.same ((s17.trans s19).trans s20), fun H21 s21 => ⟨rfl, _, rfl, ?_⟩⟩
          rw [sound_V hn3 hzo, decide_eq_true rfl]
          exact iteF ⟨_, _, rfl, ((s17.trans s19).trans s20).trans s21⟩
        · rintro σ H17 ⟨o9, o10, rfl, s17⟩
          exact ⟨_, _, _, _, _, _, _, _, _, _, rfl, sm16.trans s17⟩
    · rintro σ H0 _
      exact q H0
end
end K1
namespace K1
open PySem PySem.Spec PyProof.Rows L2 Bk
theorem kit_self {K : PySem.W.Frag} {C : Addr} : PySem.W.kitOne K (.ref C) (.ref C) = some true := by
  unfold PySem.W.kitOne
  rw [if_pos (by simp)]
theorem cls_own {K : PySem.W.Frag} {C : Addr} (h : PySem.W.isClsIn K C = true) : (PySem.W.clsIn K C).isSome = true := by
  first | exact h | (unfold PySem.W.isClsIn at h; exact h)
theorem kit_own {K : PySem.W.Frag} {C : Addr} {n : String} {b : Bool} (h1 : PySem.W.isClsIn K C = true) (h2 : PySem.W.typeIn K (.ref C) = some (.type "type")) (h3 : PySem.W.subIn K (.type n) (.ref C) = some b) : PySem.W.kitOne K (.type n) (.ref C) = some b := by
  unfold PySem.W.kitOne
  rw [if_neg (by simp)]
  unfold PySem.W.kitCls
  show (if _ then _ else _) = _
  rw [cls_own h1, h2, if_pos (by simp), h3]
theorem exm_own {K : PySem.W.Frag} {D C : Addr} {b : Bool} (h0 : PySem.W.subIn K (.ref C) (.type "BaseException") = some true) (h1 : PySem.W.isClsIn K C = true) (h2 : PySem.W.typeIn K (.ref C) = some (.type "type")) (h3 : PySem.W.subIn K (.ref D) (.ref C) = some b) : PySem.W.exmOne K (.ref D) (.ref C) = some b := by
  unfold PySem.W.exmOne
  rw [h0, if_pos (by simp)]
  unfold PySem.W.kitCls
  show (if _ then _ else _) = _
  rw [cls_own h1, h2, if_pos (by simp), h3]
theorem sqT_of {K : PySem.W.Frag} {T : Addr} {od : Option Addr} {its : Array Value} {m : Nat} {sl : Array (Option Value)} {ws : List Str} (l : K.lookup T = some ⟨.type "tuple", od, .seq its m, sl⟩) (z : its.size ≤ sizeLine) (v : Vals (ws.map V.str) its.toList) (H : Hp) : SqT K H T (ws.map V.str) :=
  .inr ⟨_, its, m, l, rfl, rfl, z, v⟩
theorem all_mk {l : PySem.W.OpenLaw} {w : World} {K : PySem.W.Frag} {h : Heap} {mg : Str → Option Value} {fa CB CE CP D TS T0 T1 T2 T3 T4 f1 f2 f3 f4 f5 f6 f7 f8 f9 f10 f11 f12 f13 f14 f15 f16 f17 f18 f19 f20 f21 f22 f23 f24 f25 f26 fPo fPl fPc fPe fMi fE fP qPo qPl qPc qPe : Addr} (X : K.In h) (G : h.Ns mainGlobals mg) (hfa : mg "law" = some (.ref fa))
    {od1 an1 od2 an2 od3 an3 od4 an4 od5 an5 od6 an6 od7 an7 od8 an8 od9 an9 od10 an10 od11 an11 od12 an12 od13 an13 od14 an14 od15 an15 od16 an16 od17 an17 od18 an18 od19 an19 od20 an20 od21 an21 od22 an22 od23 an23 od24 an24 od25 an25 od26 an26 odPo anPo odPl anPl odPc anPc odPe anPe odMi anMi odE anE odP anP : Option Addr} {sl1 sl2 sl3 sl4 sl5 sl6 sl7 sl8 sl9 sl10 sl11 sl12 sl13 sl14 sl15 sl16 sl17 sl18 sl19 sl20 sl21 sl22 sl23 sl24 sl25 sl26 slPo slPl slPc slPe slMi slE slP : Array (Option Value)} {oc1 kV1 dc1 pm1 cd1 ct1 oc2 kV2 dc2 pm2 cd2 ct2 oc3 kV3 dc3 pm3 cd3 ct3 oc4 kV4 dc4 pm4 cd4 ct4 oc5 kV5 dc5 pm5 cd5 ct5 oc6 kV6 dc6 pm6 cd6 ct6 oc7 kV7 dc7 pm7 cd7 ct7 oc8 kV8 dc8 pm8 cd8 ct8 oc9 kV9 dc9 pm9 cd9 ct9 oc10 kV10 dc10 pm10 cd10 ct10 oc11 kV11 dc11 pm11 cd11 ct11 oc12 kV12 dc12 pm12 cd12 ct12 oc13 kV13 dc13 pm13 cd13 ct13 oc14 kV14 dc14 pm14 cd14 ct14 oc15 kV15 dc15 pm15 cd15 ct15 oc16 kV16 dc16 pm16 cd16 ct16 oc17 kV17 dc17 pm17 cd17 ct17 oc18 kV18 dc18 pm18 cd18 ct18 oc19 kV19 dc19 pm19 cd19 ct19 oc20 kV20 dc20 pm20 cd20 ct20 oc21 kV21 dc21 pm21 cd21 ct21 oc22 kV22 dc22 pm22 cd22 ct22 oc23 kV23 dc23 pm23 cd23 ct23 oc24 kV24 dc24 pm24 cd24 ct24 oc25 kV25 dc25 pm25 cd25 ct25 oc26 kV26 dc26 pm26 cd26 ct26 ocPo kVPo dcPo pmPo cdPo ctPo ocPl kVPl dcPl pmPl cdPl ctPl ocPc kVPc dcPc pmPc cdPc ctPc ocPe kVPe dcPe pmPe cdPe ctPe ocMi kVMi dcMi pmMi cdMi ctMi ocE kVE dcE pmE cdE ctE ocP kVP dcP pmP cdP ctP : Value} {rePo rePl rePc rePe : List Value} {tc1 : Tok} {es : Array DictEntry} {nD : Nat} {nmE qE : Str} {nsE : Addr} {bsE bmE : List Value} {kE0 kE1 kE2 kE3 kE5 : Option Value} {snE : List Str} {subE : List Value} {abE : Bool} {colE : Option Bool} {ddE : Option Addr} {nmP qP : Str} {nsP : Addr} {bsP bmP : List Value} {kP0 kP1 kP2 kP3 kP5 : Option Value} {snP : List Str} {subP : List Value} {abP : Bool} {colP : Option Bool} {ddP : Option Addr} {odT0 : Option Addr} {its0 : Array Value} {mT0 : Nat} {slT0 : Array (Option Value)} {odT1 : Option Addr} {its1 : Array Value} {mT1 : Nat} {slT1 : Array (Option Value)} {odT2 : Option Addr} {its2 : Array Value} {mT2 : Nat} {slT2 : Array (Option Value)} {odT3 : Option Addr} {its3 : Array Value} {mT3 : Nat} {slT3 : Array (Option Value)} {odT4 : Option Addr} {its4 : Array Value} {mT4 : Nat} {slT4 : Array (Option Value)} {odTS : Option Addr} {itsS : Array Value} {mTS : Nat} {slTS : Array (Option Value)}
    (a1 : PySem.W.nsIn K mainGlobals "_is_word" = some (some (.ref f1))) (l1 : K.lookup f1 = some ⟨oc1, od1, .func (PySem.W.fnOf "_is_word" "_is_word" (defArgs sIsWord) (defBody sIsWord) (defScope sIsWord) .none kV1 dc1 pm1 an1 cd1 ct1), sl1⟩) (c1 : PySem.W.codeIn K cd1 "_is_word" = true) (k1 : PySem.W.keepIn K (.ref f1) = true)
    (a2 : PySem.W.nsIn K mainGlobals "is_index" = some (some (.ref f2))) (l2 : K.lookup f2 = some ⟨oc2, od2, .func (PySem.W.fnOf "is_index" "is_index" (defArgs sIndex) (defBody sIndex) (defScope sIndex) .none kV2 dc2 pm2 an2 cd2 ct2), sl2⟩) (c2 : PySem.W.codeIn K cd2 "is_index" = true) (k2 : PySem.W.keepIn K (.ref f2) = true)
    (a3 : PySem.W.nsIn K mainGlobals "check_book" = some (some (.ref f3))) (l3 : K.lookup f3 = some ⟨oc3, od3, .func (PySem.W.fnOf "check_book" "check_book" (defArgs sChkB) (defBody sChkB) (defScope sChkB) .none kV3 dc3 pm3 an3 cd3 ct3), sl3⟩) (c3 : PySem.W.codeIn K cd3 "check_book" = true) (k3 : PySem.W.keepIn K (.ref f3) = true)
    (a4 : PySem.W.nsIn K mainGlobals "check_places" = some (some (.ref f4))) (l4 : K.lookup f4 = some ⟨oc4, od4, .func (PySem.W.fnOf "check_places" "check_places" (defArgs sChkP) (defBody sChkP) (defScope sChkP) .none kV4 dc4 pm4 an4 cd4 ct4), sl4⟩) (c4 : PySem.W.codeIn K cd4 "check_places" = true) (k4 : PySem.W.keepIn K (.ref f4) = true)
    (a5 : PySem.W.nsIn K mainGlobals "reason_for" = some (some (.ref f5))) (l5 : K.lookup f5 = some ⟨oc5, od5, .func (PySem.W.fnOf "reason_for" "reason_for" (defArgs sReason) (defBody sReason) (defScope sReason) .none kV5 dc5 pm5 an5 cd5 ct5), sl5⟩) (c5 : PySem.W.codeIn K cd5 "reason_for" = true) (k5 : PySem.W.keepIn K (.ref f5) = true)
    (a6 : PySem.W.nsIn K mainGlobals "shapes" = some (some (.ref f6))) (l6 : K.lookup f6 = some ⟨oc6, od6, .func (PySem.W.fnOf "shapes" "shapes" (defArgs sShapes) (defBody sShapes) (defScope sShapes) .none kV6 dc6 pm6 an6 cd6 ct6), sl6⟩) (c6 : PySem.W.codeIn K cd6 "shapes" = true) (k6 : PySem.W.keepIn K (.ref f6) = true)
    (a7 : PySem.W.nsIn K mainGlobals "is_sound_paper" = some (some (.ref f7))) (l7 : K.lookup f7 = some ⟨oc7, od7, .func (PySem.W.fnOf "is_sound_paper" "is_sound_paper" (defArgs sSound) (defBody sSound) (defScope sSound) .none kV7 dc7 pm7 an7 cd7 ct7), sl7⟩) (c7 : PySem.W.codeIn K cd7 "is_sound_paper" = true) (k7 : PySem.W.keepIn K (.ref f7) = true)
    (a8 : PySem.W.nsIn K mainGlobals "_is_let_by" = some (some (.ref f8))) (l8 : K.lookup f8 = some ⟨oc8, od8, .func (PySem.W.fnOf "_is_let_by" "_is_let_by" (defArgs sLetBy) (defBody sLetBy) (defScope sLetBy) .none kV8 dc8 pm8 an8 cd8 ct8), sl8⟩) (c8 : PySem.W.codeIn K cd8 "_is_let_by" = true) (k8 : PySem.W.keepIn K (.ref f8) = true)
    (a9 : PySem.W.nsIn K mainGlobals "_are_apart_at" = some (some (.ref f9))) (l9 : K.lookup f9 = some ⟨oc9, od9, .func (PySem.W.fnOf "_are_apart_at" "_are_apart_at" (defArgs sApart) (defBody sApart) (defScope sApart) .none kV9 dc9 pm9 an9 cd9 ct9), sl9⟩) (c9 : PySem.W.codeIn K cd9 "_are_apart_at" = true) (k9 : PySem.W.keepIn K (.ref f9) = true)
    (a10 : PySem.W.nsIn K mainGlobals "_pairs" = some (some (.ref f10))) (l10 : K.lookup f10 = some ⟨oc10, od10, .func (PySem.W.fnOf "_pairs" "_pairs" (defArgs sPairs) (defBody sPairs) (defScope sPairs) .none kV10 dc10 pm10 an10 cd10 ct10), sl10⟩) (c10 : PySem.W.codeIn K cd10 "_pairs" = true) (k10 : PySem.W.keepIn K (.ref f10) = true)
    (a11 : PySem.W.nsIn K mainGlobals "_number_of" = some (some (.ref f11))) (l11 : K.lookup f11 = some ⟨oc11, od11, .func (PySem.W.fnOf "_number_of" "_number_of" (defArgs sNumOf) (defBody sNumOf) (defScope sNumOf) .none kV11 dc11 pm11 an11 cd11 ct11), sl11⟩) (c11 : PySem.W.codeIn K cd11 "_number_of" = true) (k11 : PySem.W.keepIn K (.ref f11) = true)
    (a12 : PySem.W.nsIn K mainGlobals "_is_shape" = some (some (.ref f12))) (l12 : K.lookup f12 = some ⟨oc12, od12, .func (PySem.W.fnOf "_is_shape" "_is_shape" (defArgs sIsShape) (defBody sIsShape) (defScope sIsShape) .none kV12 dc12 pm12 an12 cd12 ct12), sl12⟩) (c12 : PySem.W.codeIn K cd12 "_is_shape" = true) (k12 : PySem.W.keepIn K (.ref f12) = true)
    (a13 : PySem.W.nsIn K mainGlobals "_law_draw" = some (some (.ref f13))) (l13 : K.lookup f13 = some ⟨oc13, od13, .func (PySem.W.fnOf "_law_draw" "_law_draw" (defArgs sDraw) (defBody sDraw) (defScope sDraw) .none kV13 dc13 pm13 an13 cd13 ct13), sl13⟩) (c13 : PySem.W.codeIn K cd13 "_law_draw" = true) (k13 : PySem.W.keepIn K (.ref f13) = true)
    (a14 : PySem.W.nsIn K mainGlobals "_law_take" = some (some (.ref f14))) (l14 : K.lookup f14 = some ⟨oc14, od14, .func (PySem.W.fnOf "_law_take" "_law_take" (defArgs sTake) (defBody sTake) (defScope sTake) .none kV14 dc14 pm14 an14 cd14 ct14), sl14⟩) (c14 : PySem.W.codeIn K cd14 "_law_take" = true) (k14 : PySem.W.keepIn K (.ref f14) = true)
    (a15 : PySem.W.nsIn K mainGlobals "_law_new_words" = some (some (.ref f15))) (l15 : K.lookup f15 = some ⟨oc15, od15, .func (PySem.W.fnOf "_law_new_words" "_law_new_words" (defArgs sNewWords) (defBody sNewWords) (defScope sNewWords) .none kV15 dc15 pm15 an15 cd15 ct15), sl15⟩) (c15 : PySem.W.codeIn K cd15 "_law_new_words" = true) (k15 : PySem.W.keepIn K (.ref f15) = true)
    (a16 : PySem.W.nsIn K mainGlobals "_law_made_book" = some (some (.ref f16))) (l16 : K.lookup f16 = some ⟨oc16, od16, .func (PySem.W.fnOf "_law_made_book" "_law_made_book" (defArgs sMade) (defBody sMade) (defScope sMade) .none kV16 dc16 pm16 an16 cd16 ct16), sl16⟩) (c16 : PySem.W.codeIn K cd16 "_law_made_book" = true) (k16 : PySem.W.keepIn K (.ref f16) = true)
    (a17 : PySem.W.nsIn K mainGlobals "_law_lets" = some (some (.ref f17))) (l17 : K.lookup f17 = some ⟨oc17, od17, .func (PySem.W.fnOf "_law_lets" "_law_lets" (defArgs sLets) (defBody sLets) (defScope sLets) .none kV17 dc17 pm17 an17 cd17 ct17), sl17⟩) (c17 : PySem.W.codeIn K cd17 "_law_lets" = true) (k17 : PySem.W.keepIn K (.ref f17) = true)
    (a18 : PySem.W.nsIn K mainGlobals "_law_places_apart" = some (some (.ref f18))) (l18 : K.lookup f18 = some ⟨oc18, od18, .func (PySem.W.fnOf "_law_places_apart" "_law_places_apart" (defArgs sPlApart) (defBody sPlApart) (defScope sPlApart) .none kV18 dc18 pm18 an18 cd18 ct18), sl18⟩) (c18 : PySem.W.codeIn K cd18 "_law_places_apart" = true) (k18 : PySem.W.keepIn K (.ref f18) = true)
    (a19 : PySem.W.nsIn K mainGlobals "_law_is_integer" = some (some (.ref f19))) (l19 : K.lookup f19 = some ⟨oc19, od19, .func (PySem.W.fnOf "_law_is_integer" "_law_is_integer" (defArgs sIsInt) (defBody sIsInt) (defScope sIsInt) .none kV19 dc19 pm19 an19 cd19 ct19), sl19⟩) (c19 : PySem.W.codeIn K cd19 "_law_is_integer" = true) (k19 : PySem.W.keepIn K (.ref f19) = true)
    (a20 : PySem.W.nsIn K mainGlobals "_law_is_row" = some (some (.ref f20))) (l20 : K.lookup f20 = some ⟨oc20, od20, .func (PySem.W.fnOf "_law_is_row" "_law_is_row" (defArgs sIsRow) (defBody sIsRow) (defScope sIsRow) .none kV20 dc20 pm20 an20 cd20 ct20), sl20⟩) (c20 : PySem.W.codeIn K cd20 "_law_is_row" = true) (k20 : PySem.W.keepIn K (.ref f20) = true)
    (a21 : PySem.W.nsIn K mainGlobals "_law_shapes" = some (some (.ref f21))) (l21 : K.lookup f21 = some ⟨oc21, od21, .func (PySem.W.fnOf "_law_shapes" "_law_shapes" (defArgs sLShapes) (defBody sLShapes) (defScope sLShapes) .none kV21 dc21 pm21 an21 cd21 ct21), sl21⟩) (c21 : PySem.W.codeIn K cd21 "_law_shapes" = true) (k21 : PySem.W.keepIn K (.ref f21) = true)
    (a22 : PySem.W.nsIn K mainGlobals "_law_reason" = some (some (.ref f22))) (l22 : K.lookup f22 = some ⟨oc22, od22, .func (PySem.W.fnOf "_law_reason" "_law_reason" (defArgs sLReason) (defBody sLReason) (defScope sLReason) .none kV22 dc22 pm22 an22 cd22 ct22), sl22⟩) (c22 : PySem.W.codeIn K cd22 "_law_reason" = true) (k22 : PySem.W.keepIn K (.ref f22) = true)
    (a23 : PySem.W.nsIn K mainGlobals "_law_is_paper" = some (some (.ref f23))) (l23 : K.lookup f23 = some ⟨oc23, od23, .func (PySem.W.fnOf "_law_is_paper" "_law_is_paper" (defArgs sIsPaper) (defBody sIsPaper) (defScope sIsPaper) .none kV23 dc23 pm23 an23 cd23 ct23), sl23⟩) (c23 : PySem.W.codeIn K cd23 "_law_is_paper" = true) (k23 : PySem.W.keepIn K (.ref f23) = true)
    (a24 : PySem.W.nsIn K mainGlobals "_law_hand_rows" = some (some (.ref f24))) (l24 : K.lookup f24 = some ⟨oc24, od24, .func (PySem.W.fnOf "_law_hand_rows" "_law_hand_rows" (defArgs sHandR) (defBody sHandR) (defScope sHandR) .none kV24 dc24 pm24 an24 cd24 ct24), sl24⟩) (c24 : PySem.W.codeIn K cd24 "_law_hand_rows" = true) (k24 : PySem.W.keepIn K (.ref f24) = true)
    (a25 : PySem.W.nsIn K mainGlobals "_law_bent_rows" = some (some (.ref f25))) (l25 : K.lookup f25 = some ⟨oc25, od25, .func (PySem.W.fnOf "_law_bent_rows" "_law_bent_rows" (defArgs sBentR) (defBody sBentR) (defScope sBentR) .none kV25 dc25 pm25 an25 cd25 ct25), sl25⟩) (c25 : PySem.W.codeIn K cd25 "_law_bent_rows" = true) (k25 : PySem.W.keepIn K (.ref f25) = true)
    (a26 : PySem.W.nsIn K mainGlobals "law" = some (some (.ref f26))) (l26 : K.lookup f26 = some ⟨oc26, od26, .func (PySem.W.fnOf "law" "law" (defArgs sLaw) (defBody sLaw) (defScope sLaw) .none kV26 dc26 pm26 an26 cd26 ct26), sl26⟩) (c26 : PySem.W.codeIn K cd26 "law" = true) (k26 : PySem.W.keepIn K (.ref f26) = true)
    (aB : PySem.W.nsIn K mainGlobals "Book" = some (some (.ref CB)))
    (aE : PySem.W.nsIn K mainGlobals "InvalidBook" = some (some (.ref CE)))
    (aP : PySem.W.nsIn K mainGlobals "InvalidPlaces" = some (some (.ref CP)))
    (aD : PySem.W.nsIn K mainGlobals "SWITCHES" = some (some (.ref D)))
    (aS : PySem.W.nsIn K mainGlobals "SHAPE_WORDS" = some (some (.ref TS)))
    (lD : K.lookup D = some ⟨.type "dict", none, .dict es nD, #[]⟩)
    (kyD : PySem.W.KeysLit w.params es.toList)
    (loD : (D == sysModules) = false)
    (ksD : es.toList.map keyTx = prts.map some)
    (i0 : PySem.W.nsIn K D "owner" = some (some (.ref T0)))
    (i1 : PySem.W.nsIn K D "look" = some (some (.ref T1)))
    (i2 : PySem.W.nsIn K D "choose" = some (some (.ref T2)))
    (i3 : PySem.W.nsIn K D "wants" = some (some (.ref T3)))
    (i4 : PySem.W.nsIn K D "early" = some (some (.ref T4)))
    (lT0 : K.lookup T0 = some ⟨.type "tuple", odT0, .seq its0 mT0, slT0⟩)
    (zT0 : its0.size ≤ sizeLine)
    (vT0 : Vals (oW.map V.str) its0.toList)
    (lT1 : K.lookup T1 = some ⟨.type "tuple", odT1, .seq its1 mT1, slT1⟩)
    (zT1 : its1.size ≤ sizeLine)
    (vT1 : Vals (lW.map V.str) its1.toList)
    (lT2 : K.lookup T2 = some ⟨.type "tuple", odT2, .seq its2 mT2, slT2⟩)
    (zT2 : its2.size ≤ sizeLine)
    (vT2 : Vals (cW.map V.str) its2.toList)
    (lT3 : K.lookup T3 = some ⟨.type "tuple", odT3, .seq its3 mT3, slT3⟩)
    (zT3 : its3.size ≤ sizeLine)
    (vT3 : Vals (nW.map V.str) its3.toList)
    (lT4 : K.lookup T4 = some ⟨.type "tuple", odT4, .seq its4 mT4, slT4⟩)
    (zT4 : its4.size ≤ sizeLine)
    (vT4 : Vals (eW.map V.str) its4.toList)
    (lTS : K.lookup TS = some ⟨.type "tuple", odTS, .seq itsS mTS, slTS⟩)
    (zTS : itsS.size ≤ sizeLine)
    (vTS : Vals (shW.map V.str) itsS.toList)
    (atPo : PySem.W.findIn K (.ref CB) "owner" = some (some (.ref qPo)))
    (gePo : PySem.W.specialIn K (.ref qPo) "__get__" = some (some (.builtin "property.__get__")))
    (tkPo : PySem.W.takesIn K (.ref qPo) = some true)
    (rcPo : PySem.W.recIn K qPo "property" = some (.ref fPo :: rePo))
    (lPo : K.lookup fPo = some ⟨ocPo, odPo, .func (PySem.W.fnOf "owner" "Book.owner" (defArgs mOwner) (defBody mOwner) (defScope mOwner) .none kVPo dcPo pmPo anPo cdPo ctPo), slPo⟩) (cPo : PySem.W.codeIn K cdPo "Book.owner" = true) (kPo : PySem.W.keepIn K (.ref fPo) = true)
    (atPl : PySem.W.findIn K (.ref CB) "look" = some (some (.ref qPl)))
    (gePl : PySem.W.specialIn K (.ref qPl) "__get__" = some (some (.builtin "property.__get__")))
    (tkPl : PySem.W.takesIn K (.ref qPl) = some true)
    (rcPl : PySem.W.recIn K qPl "property" = some (.ref fPl :: rePl))
    (lPl : K.lookup fPl = some ⟨ocPl, odPl, .func (PySem.W.fnOf "look" "Book.look" (defArgs mLook) (defBody mLook) (defScope mLook) .none kVPl dcPl pmPl anPl cdPl ctPl), slPl⟩) (cPl : PySem.W.codeIn K cdPl "Book.look" = true) (kPl : PySem.W.keepIn K (.ref fPl) = true)
    (atPc : PySem.W.findIn K (.ref CB) "choose" = some (some (.ref qPc)))
    (gePc : PySem.W.specialIn K (.ref qPc) "__get__" = some (some (.builtin "property.__get__")))
    (tkPc : PySem.W.takesIn K (.ref qPc) = some true)
    (rcPc : PySem.W.recIn K qPc "property" = some (.ref fPc :: rePc))
    (lPc : K.lookup fPc = some ⟨ocPc, odPc, .func (PySem.W.fnOf "choose" "Book.choose" (defArgs mChoose) (defBody mChoose) (defScope mChoose) .none kVPc dcPc pmPc anPc cdPc ctPc), slPc⟩) (cPc : PySem.W.codeIn K cdPc "Book.choose" = true) (kPc : PySem.W.keepIn K (.ref fPc) = true)
    (atPe : PySem.W.findIn K (.ref CB) "early" = some (some (.ref qPe)))
    (gePe : PySem.W.specialIn K (.ref qPe) "__get__" = some (some (.builtin "property.__get__")))
    (tkPe : PySem.W.takesIn K (.ref qPe) = some true)
    (rcPe : PySem.W.recIn K qPe "property" = some (.ref fPe :: rePe))
    (lPe : K.lookup fPe = some ⟨ocPe, odPe, .func (PySem.W.fnOf "early" "Book.early" (defArgs mEarly) (defBody mEarly) (defScope mEarly) .none kVPe dcPe pmPe anPe cdPe ctPe), slPe⟩) (cPe : PySem.W.codeIn K cdPe "Book.early" = true) (kPe : PySem.W.keepIn K (.ref fPe) = true)
    (atMi : PySem.W.findIn K (.ref CB) "__init__" = some (some (.ref fMi)))
    (lMi : K.lookup fMi = some ⟨ocMi, odMi, .func (PySem.W.fnOf "__init__" "Book.__init__" (defArgs mInit) (defBody mInit) (defScope mInit) .none kVMi dcMi pmMi anMi cdMi ctMi), slMi⟩) (cMi : PySem.W.codeIn K cdMi "Book.__init__" = true) (kMi : PySem.W.keepIn K (.ref fMi) = true)
    (fnMi : PySem.W.isFn K (.ref fMi) = true)
    (atE : PySem.W.findIn K (.ref CE) "__init__" = some (some (.ref fE)))
    (lE : K.lookup fE = some ⟨ocE, odE, .func (PySem.W.fnOf "__init__" "InvalidBook.__init__" (defArgs mErr) (defBody mErr) (defScope mErr) .none kVE dcE pmE anE cdE ctE), slE⟩) (cE : PySem.W.codeIn K cdE "InvalidBook.__init__" = true) (kE : PySem.W.keepIn K (.ref fE) = true)
    (atP : PySem.W.findIn K (.ref CP) "__init__" = some (some (.ref fP)))
    (lP : K.lookup fP = some ⟨ocP, odP, .func (PySem.W.fnOf "__init__" "InvalidPlaces.__init__" (defArgs mErrP) (defBody mErrP) (defScope mErrP) .none kVP dcP pmP anP cdP ctP), slP⟩) (cP : PySem.W.codeIn K cdP "InvalidPlaces.__init__" = true) (kP : PySem.W.keepIn K (.ref fP) = true)
    (pg : PySem.W.plainGet K CB Str.empty = true)
    (hd : PySem.W.hasDictIn K CB = true)
    (po : PySem.W.plainOver K CB = true)
    (sa : PySem.W.findIn K (.ref CB) "__setattr__" = some (some (.builtin "object.__setattr__")))
    (nr : PySem.W.findIn K (.ref CB) "chosen" = some none)
    (ha : PySem.W.findIn K (.ref CB) "__class__" = some (some (.builtin "object.__class__")))
    (hn : PySem.W.specialIn K (.builtin "object.__class__") "__get__" = some (some (.builtin "getset_descriptor.__get__")))
    (htk : PySem.W.takesIn K (.builtin "object.__class__") = some true)
    (hm : PySem.W.mroIn K CB (.type "object") = some true)
    (mk : PySem.W.makesIn K CB = true)
    (kB : PySem.W.keepIn K (.ref CB) = true)
    (lCE : K.lookup CE = some (PySem.excClassObj nmE qE CE nsE bsE bmE true snE subE abE colE ddE kE0 kE1 kE2 kE3 kE5 "ValueError.__new__"))
    (bmrE : PySem.HandSPX.refsVE bmE = true)
    (saE : PySem.W.findIn K (.ref CE) "__setattr__" = some (some (.builtin "object.__setattr__")))
    (exE : PySem.W.subIn K (.ref CE) (.type "BaseException") = some true)
    (tyE : PySem.W.typeIn K (.ref CE) = some (.type "type"))
    (kpE : PySem.W.keepIn K (.ref CE) = true)
    (noE : PySem.W.findIn K (.ref CE) "part" = some none)
    (tIE : PySem.W.typeIn K (.ref fE) = some (.type "function"))
    (lCP : K.lookup CP = some (PySem.excClassObj nmP qP CP nsP bsP bmP true snP subP abP colP ddP kP0 kP1 kP2 kP3 kP5 "ValueError.__new__"))
    (bmrP : PySem.HandSPX.refsVE bmP = true)
    (saP : PySem.W.findIn K (.ref CP) "__setattr__" = some (some (.builtin "object.__setattr__")))
    (exP : PySem.W.subIn K (.ref CP) (.type "BaseException") = some true)
    (tyP : PySem.W.typeIn K (.ref CP) = some (.type "type"))
    (kpP : PySem.W.keepIn K (.ref CP) = true)
    (noP : PySem.W.findIn K (.ref CP) "value" = some none)
    (tIP : PySem.W.typeIn K (.ref fP) = some (.type "function"))
    (z1 : PySem.W.nsIn K mainGlobals "len" = some none)
    (z2 : PySem.W.nsIn K mainGlobals "isinstance" = some none)
    (z3 : PySem.W.nsIn K mainGlobals "str" = some none)
    (z4 : PySem.W.nsIn K mainGlobals "int" = some none)
    (z5 : PySem.W.nsIn K mainGlobals "range" = some none)
    (z6 : PySem.W.nsIn K mainGlobals "max" = some none)
    (z7 : PySem.W.nsIn K mainGlobals "min" = some none)
    (z8 : PySem.W.nsIn K mainGlobals "tuple" = some none)
    (z9 : PySem.W.nsIn K mainGlobals "list" = some none)
    (z10 : PySem.W.nsIn K mainGlobals "bool" = some none)
    (z11 : PySem.W.nsIn K mainGlobals "all" = some none)
    (z12 : PySem.W.nsIn K mainGlobals "enumerate" = some none)
    (m1 : PySem.W.nsIn K mainGlobals "MOST_PLACES" = some (some (.int 3 tc1)))
    : ∃ fd : FuncData, (∀ (s : Shared) (v : Value), BindsTo s fd ⟨[v], []⟩ [("_law_script", v)]) ∧ ∀ base : Heap, K.In base → base.Ns mainGlobals mg → FnOk l.prog w K mg base CX0 7 fa fd ["_law_script"] (spLaw K) := by
  have e := hfa.symm.trans (PySem.W.mg_of X G a26)
  cases e
  have F1 := fun_mk (st := sIsWord) l1 c1 k1
  have b1 := F1.binds (ps := ["part", "value"]) fun _ _ _ _ _ _ us hl => match us, hl with | [_, _], _ => rfl
  have g1 := PySem.W.mg_of X G a1
  have F2 := fun_mk (st := sIndex) l2 c2 k2
  have b2 := F2.binds (ps := ["value", "many"]) fun _ _ _ _ _ _ us hl => match us, hl with | [_, _], _ => rfl
  have g2 := PySem.W.mg_of X G a2
  have F3 := fun_mk (st := sChkB) l3 c3 k3
  have b3 := F3.binds (ps := ["book"]) fun _ _ _ _ _ _ us hl => match us, hl with | [_], _ => rfl
  have g3 := PySem.W.mg_of X G a3
  have F4 := fun_mk (st := sChkP) l4 c4 k4
  have b4 := F4.binds (ps := ["places"]) fun _ _ _ _ _ _ us hl => match us, hl with | [_], _ => rfl
  have g4 := PySem.W.mg_of X G a4
  have F5 := fun_mk (st := sReason) l5 c5 k5
  have b5 := F5.binds (ps := ["book"]) fun _ _ _ _ _ _ us hl => match us, hl with | [_], _ => rfl
  have g5 := PySem.W.mg_of X G a5
  have F6 := fun_mk (st := sShapes) l6 c6 k6
  have b6 := F6.binds (ps := ["book", "places"]) fun _ _ _ _ _ _ us hl => match us, hl with | [_, _], _ => rfl
  have g6 := PySem.W.mg_of X G a6
  have F7 := fun_mk (st := sSound) l7 c7 k7
  have b7 := F7.binds (ps := ["book", "places", "value"]) fun _ _ _ _ _ _ us hl => match us, hl with | [_, _, _], _ => rfl
  have g7 := PySem.W.mg_of X G a7
  have F8 := fun_mk (st := sLetBy) l8 c8 k8
  have b8 := F8.binds (ps := ["owner", "shape"]) fun _ _ _ _ _ _ us hl => match us, hl with | [_, _], _ => rfl
  have g8 := PySem.W.mg_of X G a8
  have F9 := fun_mk (st := sApart) l9 c9 k9
  have b9 := F9.binds (ps := ["one", "other", "index"]) fun _ _ _ _ _ _ us hl => match us, hl with | [_, _, _], _ => rfl
  have g9 := PySem.W.mg_of X G a9
  have F10 := fun_mk (st := sPairs) l10 c10 k10
  have b10 := F10.binds (ps := ["book", "places"]) fun _ _ _ _ _ _ us hl => match us, hl with | [_, _], _ => rfl
  have g10 := PySem.W.mg_of X G a10
  have F11 := fun_mk (st := sNumOf) l11 c11 k11
  have b11 := F11.binds (ps := ["pairs", "row"]) fun _ _ _ _ _ _ us hl => match us, hl with | [_, _], _ => rfl
  have g11 := PySem.W.mg_of X G a11
  have F12 := fun_mk (st := sIsShape) l12 c12 k12
  have b12 := F12.binds (ps := ["value"]) fun _ _ _ _ _ _ us hl => match us, hl with | [_], _ => rfl
  have g12 := PySem.W.mg_of X G a12
  have F13 := fun_mk (st := sDraw) l13 c13 k13
  have b13 := F13.binds (ps := ["_law_script", "_law_k"]) fun _ _ _ _ _ _ us hl => match us, hl with | [_, _], _ => rfl
  have g13 := PySem.W.mg_of X G a13
  have F14 := fun_mk (st := sTake) l14 c14 k14
  have b14 := F14.binds (ps := ["_law_pool", "_law_many"]) fun _ _ _ _ _ _ us hl => match us, hl with | [_, _], _ => rfl
  have g14 := PySem.W.mg_of X G a14
  have F15 := fun_mk (st := sNewWords) l15 c15 k15
  have b15 := F15.binds (ps := ["_law_pool"]) fun _ _ _ _ _ _ us hl => match us, hl with | [_], _ => rfl
  have g15 := PySem.W.mg_of X G a15
  have F16 := fun_mk (st := sMade) l16 c16 k16
  have b16 := F16.binds (ps := ["_law_words"]) fun _ _ _ _ _ _ us hl => match us, hl with | [_], _ => rfl
  have g16 := PySem.W.mg_of X G a16
  have F17 := fun_mk (st := sLets) l17 c17 k17
  have b17 := F17.binds (ps := ["_law_owning", "_law_shape"]) fun _ _ _ _ _ _ us hl => match us, hl with | [_, _], _ => rfl
  have g17 := PySem.W.mg_of X G a17
  have F18 := fun_mk (st := sPlApart) l18 c18 k18
  have b18 := F18.binds (ps := ["_law_one", "_law_other"]) fun _ _ _ _ _ _ us hl => match us, hl with | [_, _], _ => rfl
  have g18 := PySem.W.mg_of X G a18
  have F19 := fun_mk (st := sIsInt) l19 c19 k19
  have b19 := F19.binds (ps := ["_law_value"]) fun _ _ _ _ _ _ us hl => match us, hl with | [_], _ => rfl
  have g19 := PySem.W.mg_of X G a19
  have F20 := fun_mk (st := sIsRow) l20 c20 k20
  have b20 := F20.binds (ps := ["_law_words", "_law_places", "_law_row"]) fun _ _ _ _ _ _ us hl => match us, hl with | [_, _, _], _ => rfl
  have g20 := PySem.W.mg_of X G a20
  have F21 := fun_mk (st := sLShapes) l21 c21 k21
  have b21 := F21.binds (ps := ["_law_owning", "_law_places"]) fun _ _ _ _ _ _ us hl => match us, hl with | [_, _], _ => rfl
  have g21 := PySem.W.mg_of X G a21
  have F22 := fun_mk (st := sLReason) l22 c22 k22
  have b22 := F22.binds (ps := ["_law_words"]) fun _ _ _ _ _ _ us hl => match us, hl with | [_], _ => rfl
  have g22 := PySem.W.mg_of X G a22
  have F23 := fun_mk (st := sIsPaper) l23 c23 k23
  have b23 := F23.binds (ps := ["_law_words", "_law_places", "_law_value"]) fun _ _ _ _ _ _ us hl => match us, hl with | [_, _, _], _ => rfl
  have g23 := PySem.W.mg_of X G a23
  have F24 := fun_mk (st := sHandR) l24 c24 k24
  have b24 := F24.binds (ps := ["_law_pool", "_law_words", "_law_places"]) fun _ _ _ _ _ _ us hl => match us, hl with | [_, _, _], _ => rfl
  have g24 := PySem.W.mg_of X G a24
  have F25 := fun_mk (st := sBentR) l25 c25 k25
  have b25 := F25.binds (ps := ["_law_pool", "_law_rows"]) fun _ _ _ _ _ _ us hl => match us, hl with | [_, _], _ => rfl
  have g25 := PySem.W.mg_of X G a25
  have F26 := fun_mk (st := sLaw) l26 c26 k26
  have FPo := fun_mk (st := mOwner) lPo cPo kPo
  have bPo := FPo.binds (ps := ["self"]) fun _ _ _ _ _ _ us hl => match us, hl with | [_], _ => rfl
  have FPl := fun_mk (st := mLook) lPl cPl kPl
  have bPl := FPl.binds (ps := ["self"]) fun _ _ _ _ _ _ us hl => match us, hl with | [_], _ => rfl
  have FPc := fun_mk (st := mChoose) lPc cPc kPc
  have bPc := FPc.binds (ps := ["self"]) fun _ _ _ _ _ _ us hl => match us, hl with | [_], _ => rfl
  have FPe := fun_mk (st := mEarly) lPe cPe kPe
  have bPe := FPe.binds (ps := ["self"]) fun _ _ _ _ _ _ us hl => match us, hl with | [_], _ => rfl
  have FMi := fun_mk (st := mInit) lMi cMi kMi
  have FE := fun_mk (st := mErr) lE cE kE
  have bE := FE.binds (ps := ["self", "part"]) fun _ _ _ _ _ _ us hl => match us, hl with | [_, _], _ => rfl
  have FP := fun_mk (st := mErrP) lP cP kP
  have bP := FP.binds (ps := ["self", "value"]) fun _ _ _ _ _ _ us hl => match us, hl with | [_, _], _ => rfl
  have T : Tx mg := ⟨PySem.W.mg_none_of X G z1, PySem.W.mg_none_of X G z2, PySem.W.mg_none_of X G z3, PySem.W.mg_none_of X G z4, PySem.W.mg_none_of X G z5, PySem.W.mg_none_of X G z6, PySem.W.mg_none_of X G z7, PySem.W.mg_none_of X G z8, PySem.W.mg_none_of X G z9, PySem.W.mg_none_of X G z10⟩
  have C : BF K mg CB := ⟨⟨pg, hd, po, sa⟩, nr, PySem.W.mg_of X G aB, ha, hn, htk, hm, kit_self⟩
  have M : Mk K CB fMi := ⟨mk, atMi, fnMi, kB⟩
  have DD : WD K w D prts := ⟨es, nD, ⟨lD, kyD, loD⟩, ksD⟩
  have S : SWF K mg w D := ⟨PySem.W.mg_of X G aD, DD, fun p hp => by
    rcases prts_cases hp with rfl | rfl | rfl | rfl | rfl
    · exact ⟨T0, DD.get i0 rfl, fun H => (show optW "owner" = oW by decide +kernel) ▸ sqT_of lT0 zT0 vT0 H⟩
    · exact ⟨T1, DD.get i1 rfl, fun H => (show optW "look" = lW by decide +kernel) ▸ sqT_of lT1 zT1 vT1 H⟩
    · exact ⟨T2, DD.get i2 rfl, fun H => (show optW "choose" = cW by decide +kernel) ▸ sqT_of lT2 zT2 vT2 H⟩
    · exact ⟨T3, DD.get i3 rfl, fun H => (show optW "wants" = nW by decide +kernel) ▸ sqT_of lT3 zT3 vT3 H⟩
    · exact ⟨T4, DD.get i4 rfl, fun H => (show optW "early" = eW by decide +kernel) ▸ sqT_of lT4 zT4 vT4 H⟩⟩
  have Z : ShF K mg TS := ⟨PySem.W.mg_of X G aS, sqT_of lTS zTS vTS⟩
  have WE : EF K mg CE fE "InvalidBook" "part" := ⟨⟨⟨_, _, _, _, _, _, _, _, _, _, _, _, _, _, _, lCE, bmrE⟩, saE, exE, tyE, kpE⟩, noE, PySem.W.mg_of X G aE, atE, tIE⟩
  have WP : EF K mg CP fP "InvalidPlaces" "value" := ⟨⟨⟨_, _, _, _, _, _, _, _, _, _, _, _, _, _, _, lCP, bmrP⟩, saP, exP, tyP, kpP⟩, noP, PySem.W.mg_of X G aP, atP, tIP⟩
  refine ⟨PySem.W.fnOf "law" "law" (defArgs sLaw) (defBody sLaw) (defScope sLaw) .none kV26 dc26 pm26 an26 cd26 ct26, fun s v => .of_eq rfl, fun base _ _ => ?_⟩
  have G1 : FnOk l.prog w K mg base CX0 1 f1 _ ["part", "value"] (spIsWord K) := ok_isWord F1 T S
  have GI := ok_init FMi C S g1 k1 b1 G1
  have RPo : PrG l.prog w K mg base CB "owner" qPo fPo _ := ⟨⟨atPo, gePo, tkPo, ⟨_, rcPo⟩⟩, bPo, ok_owner FPo C⟩
  have RPl : PrG l.prog w K mg base CB "look" qPl fPl _ := ⟨⟨atPl, gePl, tkPl, ⟨_, rcPl⟩⟩, bPl, ok_look FPl C⟩
  have RPc : PrG l.prog w K mg base CB "choose" qPc fPc _ := ⟨⟨atPc, gePc, tkPc, ⟨_, rcPc⟩⟩, bPc, ok_choose FPc C⟩
  have RPe : PrG l.prog w K mg base CB "early" qPe fPe _ := ⟨⟨atPe, gePe, tkPe, ⟨_, rcPe⟩⟩, bPe, ok_early FPe C⟩
  have GE : FnOk l.prog w K mg base CX0 1 fE _ ["self", "part"] (spErr CE "part") := ok_err FE WE
  have GP : FnOk l.prog w K mg base CX0 1 fP _ ["self", "value"] (spErr CP "value") := ok_errP FP WP
  have G3 := ok_chkB F3 T C WE bE GE
  have G2 : FnOk l.prog w K mg base CX0 1 f2 _ ["value", "many"] (spIndex K) := ok_index F2 T
  have G4 := ok_chkP F4 ⟨_, PySem.W.mg_of X G m1⟩ WP bP GP g2 k2 b2 G2
  have G5 := ok_reason F5 C RPl RPc RPe
  have G8 : FnOk l.prog w K mg base CX0 1 f8 _ ["owner", "shape"] spLetBy := ok_letBy F8 
  have G6 := ok_shapes F6 T C Z RPo g3 k3 b3 G3 g4 k4 b4 G4 g8 k8 b8 G8
  have G13 : FnOk l.prog w K mg base CX0 1 f13 _ ["_law_script", "_law_k"] (spDraw K) := ok_draw F13 T
  have G14 : FnOk l.prog w K mg base CX0 1 f14 _ ["_law_pool", "_law_many"] spTake := ok_take F14 T
  have G15 := ok_newWords F15 g14 k14 b14 G14
  have hb : KBn K _ ["self", "owner", "look", "choose", "wants", "early"] 1 kw5 (fun us ws => us ++ ws) (fun vs zs => vs ++ zs) := ⟨fun s us ws _ l1 l2 => match us, ws, l1, l2 with | [_], [_, _, _, _, _], _, _ => (.of_eq rfl : BindsTo s (PySem.W.fnOf "__init__" "Book.__init__" (defArgs mInit) (defBody mInit) (defScope mInit) .none kVMi dcMi pmMi anMi cdMi ctMi) _ _), fun r1 r2 => r1.append r2⟩
  have G16 := ok_made F16 C M hb GI
  have G17 : FnOk l.prog w K mg base CX0 1 f17 _ ["_law_owning", "_law_shape"] (spLets K) := ok_lets F17 
  have G21 := ok_lShapes F21 T g17 k17 b17 G17
  have G22 : FnOk l.prog w K mg base CX0 1 f22 _ ["_law_words"] (spLReason K) := ok_lReason F22 
  have G12 : FnOk l.prog w K mg base CX0 1 f12 _ ["value"] (spIsShape K) := ok_isShape F12 T (PySem.W.mg_none_of X G z11)
  have G9 : FnOk l.prog w K mg base CX0 1 f9 _ ["one", "other", "index"] (spApart K) := ok_apart F9 
  have G10 := ok_pairs F10 T (PySem.W.mg_none_of X G z12) g6 k6 b6 G6
  have G11 := ok_num F11 T (PySem.W.mg_none_of X G z12) g12 k12 b12 G12 g2 k2 b2 G2 g9 k9 b9 G9
  have G7 := ok_sound F7 T g3 k3 b3 G3 g4 k4 b4 G4 g5 k5 b5 G5 g10 k10 b10 G10 g11 k11 b11 G11
  have G18 : FnOk l.prog w K mg base CX0 1 f18 _ ["_law_one", "_law_other"] (spPlA K) := ok_plA F18 T
  have G19 : FnOk l.prog w K mg base CX0 1 f19 _ ["_law_value"] spIsInt := ok_isInt F19 T
  have G20 := ok_isRow F20 T g19 k19 b19 G19 g17 k17 b17 G17 g18 k18 b18 G18
  have G23 := ok_isPaper F23 T g22 k22 b22 G22 g20 k20 b20 G20 g21 k21 b21 G21
  have G24 := ok_hand F24 T g14 k14 b14 G14 g21 k21 b21 G21 g18 k18 b18 G18
  have G25 := ok_bent F25 T g14 k14 b14 G14
  exact ok_law F26 T g13 k13 b13 G13 g14 k14 b14 G14 g15 k15 b15 G15 g16 k16 b16 G16 g24 k24 b24 G24 g22 k22 b22 G22 g25 k25 b25 G25 g7 k7 b7 G7 g23 k23 b23 G23
end K1
open PySem PySem.W PyProof.Rows
set_option maxRecDepth 100000 in
set_option maxHeartbeats 0 in
theorem PySem.Challenge.cw_soleinstances_k60_bent_papers_of_soundne_holds : PySem.Challenge.rw_soleinstances_k60_bent_papers_of_soundne.Holds := by
  w_on; o_law; k_head; (case hw => w_witness2)
  k_fill
  refine L2.walk_of (l := PySem.Challenge.rw_soleinstances_k60_bent_papers_of_soundne) (n := 63) (k := 7) (x := "_law_script") (CX := fun _ => L2.CX0) (sp := fun w => K1.spLaw _) rfl (by decide) rfl ⟨rfl, by decide, by decide⟩ (fun w h Y => PySem.W.kIn_of Y) ?F (fun _ _ a ns hl _ hS => ⟨a, ns, rfl, hS, hl, fun _ => rfl⟩) (fun _ _ _ _ _ h => h)
  case F =>
    intro w mg fa h KX G hmg
    refine' K1.all_mk KX G hmg ?a1 ?l1 ?c1 ?k1 ?a2 ?l2 ?c2 ?k2 ?a3 ?l3 ?c3 ?k3 ?a4 ?l4 ?c4 ?k4 ?a5 ?l5 ?c5 ?k5 ?a6 ?l6 ?c6 ?k6 ?a7 ?l7 ?c7 ?k7 ?a8 ?l8 ?c8 ?k8 ?a9 ?l9 ?c9 ?k9 ?a10 ?l10 ?c10 ?k10 ?a11 ?l11 ?c11 ?k11 ?a12 ?l12 ?c12 ?k12 ?a13 ?l13 ?c13 ?k13 ?a14 ?l14 ?c14 ?k14 ?a15 ?l15 ?c15 ?k15 ?a16 ?l16 ?c16 ?k16 ?a17 ?l17 ?c17 ?k17 ?a18 ?l18 ?c18 ?k18 ?a19 ?l19 ?c19 ?k19 ?a20 ?l20 ?c20 ?k20 ?a21 ?l21 ?c21 ?k21 ?a22 ?l22 ?c22 ?k22 ?a23 ?l23 ?c23 ?k23 ?a24 ?l24 ?c24 ?k24 ?a25 ?l25 ?c25 ?k25 ?a26 ?l26 ?c26 ?k26 ?aB ?aE ?aP ?aD ?aS ?lD ?kyD ?loD ?ksD ?i0 ?i1 ?i2 ?i3 ?i4 ?lT0 ?zT0 ?vT0 ?lT1 ?zT1 ?vT1 ?lT2 ?zT2 ?vT2 ?lT3 ?zT3 ?vT3 ?lT4 ?zT4 ?vT4 ?lTS ?zTS ?vTS ?atPo ?gePo ?tkPo ?rcPo ?lPo ?cPo ?kPo ?atPl ?gePl ?tkPl ?rcPl ?lPl ?cPl ?kPl ?atPc ?gePc ?tkPc ?rcPc ?lPc ?cPc ?kPc ?atPe ?gePe ?tkPe ?rcPe ?lPe ?cPe ?kPe ?atMi ?lMi ?cMi ?kMi ?fnMi ?atE ?lE ?cE ?kE ?atP ?lP ?cP ?kP ?pg ?hd ?po ?sa ?nr ?ha ?hn ?htk ?hm ?mk ?kB ?lCE ?bmrE ?saE ?exE ?tyE ?kpE ?noE ?tIE ?lCP ?bmrP ?saP ?exP ?tyP ?kpP ?noP ?tIP ?z1 ?z2 ?z3 ?z4 ?z5 ?z6 ?z7 ?z8 ?z9 ?z10 ?z11 ?z12 ?m1
    (case a1 => k_is)
    (case l1 => k_is)
    (case c1 => k_is)
    (case k1 => k_is)
    (case a2 => k_is)
    (case l2 => k_is)
    (case c2 => k_is)
    (case k2 => k_is)
    (case a3 => k_is)
    (case l3 => k_is)
    (case c3 => k_is)
    (case k3 => k_is)
    (case a4 => k_is)
    (case l4 => k_is)
    (case c4 => k_is)
    (case k4 => k_is)
    (case a5 => k_is)
    (case l5 => k_is)
    (case c5 => k_is)
    (case k5 => k_is)
    (case a6 => k_is)
    (case l6 => k_is)
    (case c6 => k_is)
    (case k6 => k_is)
    (case a7 => k_is)
    (case l7 => k_is)
    (case c7 => k_is)
    (case k7 => k_is)
    (case a8 => k_is)
    (case l8 => k_is)
    (case c8 => k_is)
    (case k8 => k_is)
    (case a9 => k_is)
    (case l9 => k_is)
    (case c9 => k_is)
    (case k9 => k_is)
    (case a10 => k_is)
    (case l10 => k_is)
    (case c10 => k_is)
    (case k10 => k_is)
    (case a11 => k_is)
    (case l11 => k_is)
    (case c11 => k_is)
    (case k11 => k_is)
    (case a12 => k_is)
    (case l12 => k_is)
    (case c12 => k_is)
    (case k12 => k_is)
    (case a13 => k_is)
    (case l13 => k_is)
    (case c13 => k_is)
    (case k13 => k_is)
    (case a14 => k_is)
    (case l14 => k_is)
    (case c14 => k_is)
    (case k14 => k_is)
    (case a15 => k_is)
    (case l15 => k_is)
    (case c15 => k_is)
    (case k15 => k_is)
    (case a16 => k_is)
    (case l16 => k_is)
    (case c16 => k_is)
    (case k16 => k_is)
    (case a17 => k_is)
    (case l17 => k_is)
    (case c17 => k_is)
    (case k17 => k_is)
    (case a18 => k_is)
    (case l18 => k_is)
    (case c18 => k_is)
    (case k18 => k_is)
    (case a19 => k_is)
    (case l19 => k_is)
    (case c19 => k_is)
    (case k19 => k_is)
    (case a20 => k_is)
    (case l20 => k_is)
    (case c20 => k_is)
    (case k20 => k_is)
    (case a21 => k_is)
    (case l21 => k_is)
    (case c21 => k_is)
    (case k21 => k_is)
    (case a22 => k_is)
    (case l22 => k_is)
    (case c22 => k_is)
    (case k22 => k_is)
    (case a23 => k_is)
    (case l23 => k_is)
    (case c23 => k_is)
    (case k23 => k_is)
    (case a24 => k_is)
    (case l24 => k_is)
    (case c24 => k_is)
    (case k24 => k_is)
    (case a25 => k_is)
    (case l25 => k_is)
    (case c25 => k_is)
    (case k25 => k_is)
    (case a26 => k_is)
    (case l26 => k_is)
    (case c26 => k_is)
    (case k26 => k_is)
    (case aB => k_is)
    (case aE => k_is)
    (case aP => k_is)
    (case aD => k_is)
    (case aS => k_is)
    (case lD => k_is)
    (case kyD => k_keys)
    (case loD => first | rfl | decide)
    (case ksD => first | rfl | decide +kernel)
    (case i0 => k_is)
    (case i1 => k_is)
    (case i2 => k_is)
    (case i3 => k_is)
    (case i4 => k_is)
    (case lT0 => k_is)
    (case zT0 => first | decide | exact (by decide +kernel))
    (case vT0 => repeat (first | exact Paired.nil | refine Paired.cons ⟨_, rfl⟩ ?_))
    (case lT1 => k_is)
    (case zT1 => first | decide | exact (by decide +kernel))
    (case vT1 => repeat (first | exact Paired.nil | refine Paired.cons ⟨_, rfl⟩ ?_))
    (case lT2 => k_is)
    (case zT2 => first | decide | exact (by decide +kernel))
    (case vT2 => repeat (first | exact Paired.nil | refine Paired.cons ⟨_, rfl⟩ ?_))
    (case lT3 => k_is)
    (case zT3 => first | decide | exact (by decide +kernel))
    (case vT3 => repeat (first | exact Paired.nil | refine Paired.cons ⟨_, rfl⟩ ?_))
    (case lT4 => k_is)
    (case zT4 => first | decide | exact (by decide +kernel))
    (case vT4 => repeat (first | exact Paired.nil | refine Paired.cons ⟨_, rfl⟩ ?_))
    (case lTS => k_is)
    (case zTS => first | decide | exact (by decide +kernel))
    (case vTS => repeat (first | exact Paired.nil | refine Paired.cons ⟨_, rfl⟩ ?_))
    (case atPo => k_is)
    (case gePo => k_is)
    (case tkPo => k_is)
    (case rcPo => k_is)
    (case lPo => k_is)
    (case cPo => k_is)
    (case kPo => k_is)
    (case atPl => k_is)
    (case gePl => k_is)
    (case tkPl => k_is)
    (case rcPl => k_is)
    (case lPl => k_is)
    (case cPl => k_is)
    (case kPl => k_is)
    (case atPc => k_is)
    (case gePc => k_is)
    (case tkPc => k_is)
    (case rcPc => k_is)
    (case lPc => k_is)
    (case cPc => k_is)
    (case kPc => k_is)
    (case atPe => k_is)
    (case gePe => k_is)
    (case tkPe => k_is)
    (case rcPe => k_is)
    (case lPe => k_is)
    (case cPe => k_is)
    (case kPe => k_is)
    (case atMi => k_is)
    (case lMi => k_is)
    (case cMi => k_is)
    (case kMi => k_is)
    (case fnMi => k_is)
    (case atE => k_is)
    (case lE => k_is)
    (case cE => k_is)
    (case kE => k_is)
    (case atP => k_is)
    (case lP => k_is)
    (case cP => k_is)
    (case kP => k_is)
    (case pg => k_is)
    (case hd => k_is)
    (case po => k_is)
    (case sa => k_is)
    (case nr => k_is)
    (case ha => k_is)
    (case hn => k_is)
    (case htk => k_is)
    (case hm => k_is)
    (case mk => k_is)
    (case kB => k_is)
    (case lCE => k_is)
    (case bmrE => decide +kernel)
    (case saE => k_is)
    (case exE => k_is)
    (case tyE => k_is)
    (case kpE => k_is)
    (case noE => k_is)
    (case tIE => k_is)
    (case lCP => k_is)
    (case bmrP => decide +kernel)
    (case saP => k_is)
    (case exP => k_is)
    (case tyP => k_is)
    (case kpP => k_is)
    (case noP => k_is)
    (case tIP => k_is)
    (case z1 => k_is)
    (case z2 => k_is)
    (case z3 => k_is)
    (case z4 => k_is)
    (case z5 => k_is)
    (case z6 => k_is)
    (case z7 => k_is)
    (case z8 => k_is)
    (case z9 => k_is)
    (case z10 => k_is)
    (case z11 => k_is)
    (case z12 => k_is)
    (case m1 => k_is)
#print axioms PySem.Challenge.cw_soleinstances_k60_bent_papers_of_soundne_holds
