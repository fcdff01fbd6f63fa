import PyProof.Rows.All
import Wide.All
import OpenK.AllK
import Wide.FinOn
import HandS.ForMost
import HandS.ForExc
import HandS.More
import HandS.Walk
import HandS.HeadHook3
import HandS.TryMany
import HandS.StrMore
import HandS.IsInst
import HandS.TupLe
import HandS.Property
import HandS.DictComp
import HandS.Deep
import HandS.TupAny
import HandS.Conv
import HandS.ExcInit
import HandS.ExcField
import HandS.Star
import HandS.MakeKwOnly
import HandS.Strs
import HandS.DictEq
import HandS.TupMul
import HandS.Zip
import HandS.Style
import HandS.WordsDict
import HandS.ClsMeth
import KE.GoesEnum
import HandS.Head0
import HandS.Head1
import HandS.Head2
import HandS.HeadHook1
import HandS.HeadHook3
import HandS.Replace
import HandS.RevRange
import HandS.RaiseMore
import KE.KDictZip
import KE.KFmtOwn
import KE.KExcIs
import PySem.Challenge.RW_soleinstances_k21_books
set_option Elab.async false
set_option linter.all false
set_option maxRecDepth 100000
set_option maxHeartbeats 4000000
/-! The keys of a written dict with text keys, walked. -/
namespace Bk
open PySem PySem.Spec PyProof.Rows L2
/-- the text of a key -/
def keyTx (e : DictEntry) : Option Str := match e.key with
  | .str x _ => some x
  | _ => none
/-- at d: a written dict with the texts ks as keys, in order -/
def WD (K : PySem.W.Frag) (w : World) (d : Addr) (ks : List Str) : Prop := ∃ es n, KDict K w d es n ∧ es.toList.map keyTx = ks.map some
theorem keyTx_some {e : DictEntry} {k : Str} (h : keyTx e = some k) : ∃ t, e.key = .str k t := by
  unfold keyTx at h
  split at h
  · rename_i x t q
    cases h
    exact ⟨t, q⟩
  · cases h
theorem keys_size {es : Array DictEntry} {ks : List Str} (h : es.toList.map keyTx = ks.map some) : es.size = ks.length := by
  have := congrArg List.length h
  simpa using this
theorem keys_at {es : Array DictEntry} {ks : List Str} (h : es.toList.map keyTx = ks.map some) {i : Nat} {k : Str} (hk : ks[i]? = some k) : ∃ en t, es[i]? = some en ∧ en.key = .str k t := by
  have h1 := congrArg (fun l : List (Option Str) => l[i]?) h
  simp only [List.getElem?_map, hk, Option.map_some] at h1
  cases e : es.toList[i]? with
  | none =>
    rw [e] at h1
    cases h1
  | some en =>
    rw [e] at h1
    simp only [Option.map_some, Option.some.injEq] at h1
    obtain ⟨t, q⟩ := keyTx_some h1
    refine ⟨en, t, ?_, q⟩
    rw [← Array.getElem?_toList]
    exact e
/-- the keys ks, in order -/
def Itw (ks : List Str) : It := ⟨fun i _ => i < ks.length, fun i H x H' => H' = H ∧ ∃ k, ks[i]? = some k ∧ x = .str k, fun i _ => ks.length ≤ i⟩
theorem turn_wkeys {P : Program} {w : World} {K : PySem.W.Frag} {tg : Expr} {d : Addr} {es : Array DictEntry} {ep : Nat} {ks : List Str} (it : Addr) (hl : K.lookup d = some ⟨.type "dict", none, .dict es ep, #[]⟩) (hk : es.toList.map keyTx = ks.map some) :
    Turn P w K tg (Itw ks) [it] it (fun i h => h.IsKeyIter it d i ks.length ep) where
  mem := by simp
  obj := fun i h st b hb => by
    have e : b = it := by simpa using hb
    subst e
    obtain ⟨oi, e, c, dd⟩ := st
    exact ⟨oi, e, fun v z => by rw [dd] at z; cases z⟩
  keep := fun i h h' st k => st.at fun oi e => k it (by simp) oi e
  item := by
    intro X hP hw hK hc i pins s σ H E I hf st hg
    subst hP hw hK
    obtain ⟨f0, f1, f2, f3, f4, f5⟩ := hf it (by simp)
    have hg' : i < ks.length := hg
    obtain ⟨k, hkk⟩ : ∃ k, ks[i]? = some k := ⟨ks[i], List.getElem?_eq_getElem hg'⟩
    obtain ⟨en, t, hen, hkey⟩ := keys_at hk hkk
    have hod := I.kIn _ _ hl
    refine next_key_item st hod rfl (keys_size hk) hen fun h' st' sb => ?_
    have I1 : Inv X pins σ H { s with heap := h' } := I.turned (t' := s.toks) (fun b ob hb e => (sb.2 b hb).trans e) f0 f1 f3 f4 f5
    obtain ⟨oi, e, c, dd⟩ := id st'
    refine ⟨en.key, rfl, go_of (s := { s with heap := h' }) e c dd (by decide) ⟨.str k, H, I1, ⟨t, hkey⟩, ⟨rfl, k, hkk, rfl⟩, st', fun b hb => (hf b hb).1⟩⟩
  done := by
    intro X hP hw hK hc i pins s σ H E I hf st hg
    subst hP hw hK
    obtain ⟨f0, f1, f2, f3, f4, f5⟩ := hf it (by simp)
    have hod := I.kIn _ _ hl
    exact next_key_end (I.ok.hd hc) st hod rfl (keys_size hk) hg fun h' eb => ⟨rfl, I.turned (t' := s.toks) (fun b ob hb e => eb b ob hb e) f0 f1 f3 f4 f5⟩
  self := fun A i s Q E st h => wpAny_pyIter_keyiter st h
def iW (K : PySem.W.Frag) (w : World) (td : TE) : TI := fun σ H R => td σ H fun x H1 => ∃ d ks, x = .ref d ∧ WD K w d ks ∧ R (Itw ks) H1
theorem pi_wkeys {X : Cx} {tg e : Expr} {td : TE} (he : PE X e td) : PI X tg e (iW X.K X.w td) := by
  refine ⟨fun pins s σ H R I h => ?_⟩
  refine thn (he.run pins s σ H _ I h) fun u s1 ⟨x, H1, I1, rx, d, ks, ex, ⟨es, n, D, hk⟩, q⟩ => ?_
  subst ex
  obtain rfl : u = Value.ref d := rx
  have hod := I1.kIn _ _ D.at_
  refine iter_keys D.low hod ⟨rfl, rfl, rfl⟩ rfl (pi_one (tk := s1.toks) I1 _ (turn_wkeys _ D.at_ hk) ⟨_, Heap.get?_push_size _ rfl, rfl, ?_⟩ q)
  rw [keys_size hk] <;> rfl
theorem walk_w {ks : List Str} : Walk (Itw ks) ks.length (fun _ => True) (fun i H x H' => H' = H ∧ ∃ k, ks[i]? = some k ∧ x = .str k) :=
  ⟨fun _ _ hi _ => hi, fun _ _ => Nat.le_refl _, fun _ _ _ _ _ _ y => y⟩
/-- the value of a written dict at a text -/
theorem WD.get {K : PySem.W.Frag} {w : World} {d : Addr} {ks : List Str} {z : Str} {u : Value} {v : V} (D : WD K w d ks) (e : PySem.W.nsIn K d z = some (some u)) (r : RelV v u) : KDct K w d z v := by
  obtain ⟨es, n, D, _⟩ := D
  exact ⟨es, n, u, D.at_, D.lit, e, r⟩
end Bk
/-! The reading of a comprehension with two for. -/
namespace Tk
open PySem PySem.Spec PyProof.Rows L2
theorem in_tup {K : PySem.W.Frag} {b : Addr} {ys : List V} {g1 : TG} {tt1 : TT} {te : TE} {vs1 : List Nat} {σ2 : L2.St} {H4 : Hp} {D : Addr} {Nx : Hp → Prop} (Pv : Nat → Hp → Prop) (h0 : Pv 0 H4) (hl : ∀ j H, j ≤ ys.length → Pv j H → SqT K H b ys)
    (hs : ∀ j x H, ys[j]? = some x → Pv j H → g1 x (wipe σ2 vs1) H fun σ3 H5 => wipe σ3 vs1 = wipe σ2 vs1 ∧ tt1 σ3 H5 fun c H6 =>
      if c = true then te σ3 H6 fun y H7 => ∃ acc, H7 D = some (.lst acc) ∧ acc.length < sizeLine ∧ Pv (j + 1) (upd H7 D (.lst (acc ++ [y]))) else Pv (j + 1) H6) (hd : ∀ H, Pv ys.length H → Nx H) :
    ∃ W1 : Nat → Nat → Hp → Prop, (∃ m, W1 0 m H4) ∧ ∀ j k H, W1 j k H →
      ((Itt K b).stop j H ∧ Nx H) ∨ ((Itt K b).go j H ∧ ∃ Nx1 : Hp → Prop, (∀ H', Nx1 H' → ∃ k', k' < k ∧ W1 (j + 1) k' H') ∧ ∀ x H', (Itt K b).yld j H x H' → g1 x (wipe σ2 vs1) H' fun σ3 H5 => wipe σ3 vs1 = wipe σ2 vs1 ∧ tt1 σ3 H5 fun b H6 =>
        if b = true then te σ3 H6 fun y H7 => ∃ acc, H7 D = some (.lst acc) ∧ acc.length < sizeLine ∧ Nx1 (upd H7 D (.lst (acc ++ [y]))) else Nx1 H6) := by
  refine ⟨fun j m H => m = ys.length - j ∧ j ≤ ys.length ∧ Pv j H, ⟨ys.length, by simp, Nat.zero_le _, h0⟩, ?_⟩
  rintro j m H ⟨rfl, hj, p⟩
  have q := hl j H hj p
  by_cases lt : j < ys.length
  · refine .inr ⟨⟨ys, ys[j], q, by simp [lt]⟩, Pv (j + 1), fun H' p' => ⟨ys.length - (j + 1), by omega, rfl, lt, p'⟩, fun x H' y => ?_⟩
    obtain ⟨e, y⟩ := y
    subst e
    exact hs j x _ (y ys q) p
  · have e : j = ys.length := by omega
    subst e
    exact .inl ⟨⟨ys, q, Nat.le_refl _⟩, hd H p⟩
theorem lc2_list {K : PySem.W.Frag} {a : Addr} {xs : List V} {g : TG} {tt : TT} {wi1 : TI} {g1 : TG} {tt1 : TT} {te : TE} {vs vs1 : List Nat} {σ : L2.St} {H1 : Hp} {D : Addr} {Qd : Hp → Prop} (Pv : Nat → Hp → Prop) (h0 : Pv 0 (upd H1 D (.lst []))) (hl : ∀ i H, i ≤ xs.length → Pv i H → SqL K H a xs)
    (hs : ∀ i x H, xs[i]? = some x → Pv i H → g x (wipe σ vs) H fun σ2 H2 => wipe σ2 vs = wipe σ vs ∧ tt σ2 H2 fun b H3 =>
      if b = true then wi1 σ2 H3 fun J1 H4 => ∃ W1 : Nat → Nat → Hp → Prop, (∃ m, W1 0 m H4) ∧ ∀ j k H, W1 j k H →
      (J1.stop j H ∧ Pv (i + 1) H) ∨ (J1.go j H ∧ ∃ Nx1 : Hp → Prop, (∀ H', Nx1 H' → ∃ k', k' < k ∧ W1 (j + 1) k' H') ∧ ∀ x H', J1.yld j H x H' → g1 x (wipe σ2 vs1) H' fun σ3 H5 => wipe σ3 vs1 = wipe σ2 vs1 ∧ tt1 σ3 H5 fun b H6 =>
        if b = true then te σ3 H6 fun y H7 => ∃ acc, H7 D = some (.lst acc) ∧ acc.length < sizeLine ∧ Nx1 (upd H7 D (.lst (acc ++ [y]))) else Nx1 H6) else Pv (i + 1) H3) (hd : ∀ H, Pv xs.length H → Qd H) :
    ∃ W : Nat → Nat → Hp → Prop, (∃ m, W 0 m (upd H1 D (.lst []))) ∧ ∀ i m H, W i m H →
      ((Itl K a).stop i H ∧ Qd H) ∨ ((Itl K a).go i H ∧ ∃ Nx : Hp → Prop, (∀ H', Nx H' → ∃ m', m' < m ∧ W (i + 1) m' H') ∧ ∀ x H', (Itl K a).yld i H x H' → g x (wipe σ vs) H' fun σ2 H2 => wipe σ2 vs = wipe σ vs ∧ tt σ2 H2 fun b H3 =>
        if b = true then wi1 σ2 H3 fun J1 H4 => ∃ W1 : Nat → Nat → Hp → Prop, (∃ m, W1 0 m H4) ∧ ∀ j k H, W1 j k H →
      (J1.stop j H ∧ Nx H) ∨ (J1.go j H ∧ ∃ Nx1 : Hp → Prop, (∀ H', Nx1 H' → ∃ k', k' < k ∧ W1 (j + 1) k' H') ∧ ∀ x H', J1.yld j H x H' → g1 x (wipe σ2 vs1) H' fun σ3 H5 => wipe σ3 vs1 = wipe σ2 vs1 ∧ tt1 σ3 H5 fun b H6 =>
        if b = true then te σ3 H6 fun y H7 => ∃ acc, H7 D = some (.lst acc) ∧ acc.length < sizeLine ∧ Nx1 (upd H7 D (.lst (acc ++ [y]))) else Nx1 H6) else Nx H3) := by
  refine ⟨fun i m H => m = xs.length - i ∧ i ≤ xs.length ∧ Pv i H, ⟨xs.length, by simp, Nat.zero_le _, h0⟩, ?_⟩
  rintro i m H ⟨rfl, hi, p⟩
  have q := hl i H hi p
  by_cases lt : i < xs.length
  · refine .inr ⟨⟨xs, xs[i], q, by simp [lt]⟩, Pv (i + 1), fun H' p' => ⟨xs.length - (i + 1), by omega, rfl, lt, p'⟩, fun x H' y => ?_⟩
    obtain ⟨e, y⟩ := y
    subst e
    exact hs i x _ (y xs q) p
  · have e : i = xs.length := by omega
    subst e
    exact .inl ⟨⟨xs, q, Nat.le_refl _⟩, hd H p⟩
theorem lc2_tup {K : PySem.W.Frag} {a : Addr} {xs : List V} {g : TG} {tt : TT} {wi1 : TI} {g1 : TG} {tt1 : TT} {te : TE} {vs vs1 : List Nat} {σ : L2.St} {H1 : Hp} {D : Addr} {Qd : Hp → Prop} (Pv : Nat → Hp → Prop) (h0 : Pv 0 (upd H1 D (.lst []))) (hl : ∀ i H, i ≤ xs.length → Pv i H → SqT K H a xs)
    (hs : ∀ i x H, xs[i]? = some x → Pv i H → g x (wipe σ vs) H fun σ2 H2 => wipe σ2 vs = wipe σ vs ∧ tt σ2 H2 fun b H3 =>
      if b = true then wi1 σ2 H3 fun J1 H4 => ∃ W1 : Nat → Nat → Hp → Prop, (∃ m, W1 0 m H4) ∧ ∀ j k H, W1 j k H →
      (J1.stop j H ∧ Pv (i + 1) H) ∨ (J1.go j H ∧ ∃ Nx1 : Hp → Prop, (∀ H', Nx1 H' → ∃ k', k' < k ∧ W1 (j + 1) k' H') ∧ ∀ x H', J1.yld j H x H' → g1 x (wipe σ2 vs1) H' fun σ3 H5 => wipe σ3 vs1 = wipe σ2 vs1 ∧ tt1 σ3 H5 fun b H6 =>
        if b = true then te σ3 H6 fun y H7 => ∃ acc, H7 D = some (.lst acc) ∧ acc.length < sizeLine ∧ Nx1 (upd H7 D (.lst (acc ++ [y]))) else Nx1 H6) else Pv (i + 1) H3) (hd : ∀ H, Pv xs.length H → Qd H) :
    ∃ W : Nat → Nat → Hp → Prop, (∃ m, W 0 m (upd H1 D (.lst []))) ∧ ∀ i m H, W i m H →
      ((Itt K a).stop i H ∧ Qd H) ∨ ((Itt K a).go i H ∧ ∃ Nx : Hp → Prop, (∀ H', Nx H' → ∃ m', m' < m ∧ W (i + 1) m' H') ∧ ∀ x H', (Itt K a).yld i H x H' → g x (wipe σ vs) H' fun σ2 H2 => wipe σ2 vs = wipe σ vs ∧ tt σ2 H2 fun b H3 =>
        if b = true then wi1 σ2 H3 fun J1 H4 => ∃ W1 : Nat → Nat → Hp → Prop, (∃ m, W1 0 m H4) ∧ ∀ j k H, W1 j k H →
      (J1.stop j H ∧ Nx H) ∨ (J1.go j H ∧ ∃ Nx1 : Hp → Prop, (∀ H', Nx1 H' → ∃ k', k' < k ∧ W1 (j + 1) k' H') ∧ ∀ x H', J1.yld j H x H' → g1 x (wipe σ2 vs1) H' fun σ3 H5 => wipe σ3 vs1 = wipe σ2 vs1 ∧ tt1 σ3 H5 fun b H6 =>
        if b = true then te σ3 H6 fun y H7 => ∃ acc, H7 D = some (.lst acc) ∧ acc.length < sizeLine ∧ Nx1 (upd H7 D (.lst (acc ++ [y]))) else Nx1 H6) else Nx H3) := by
  refine ⟨fun i m H => m = xs.length - i ∧ i ≤ xs.length ∧ Pv i H, ⟨xs.length, by simp, Nat.zero_le _, h0⟩, ?_⟩
  rintro i m H ⟨rfl, hi, p⟩
  have q := hl i H hi p
  by_cases lt : i < xs.length
  · refine .inr ⟨⟨xs, xs[i], q, by simp [lt]⟩, Pv (i + 1), fun H' p' => ⟨xs.length - (i + 1), by omega, rfl, lt, p'⟩, fun x H' y => ?_⟩
    obtain ⟨e, y⟩ := y
    subst e
    exact hs i x _ (y xs q) p
  · have e : i = xs.length := by omega
    subst e
    exact .inl ⟨⟨xs, q, Nat.le_refl _⟩, hd H p⟩
end Tk
/-! Tuples that are known to have no dict of their own: their methods. -/
namespace Bk
open PySem PySem.Spec PyProof.Rows L2
def TupF (H : Hp) (p : Addr) (xs : List V) : Prop := ∃ o : Obj, H p = some (.frz o (.tup xs)) ∧ o.dict = none
theorem TupF.sq {K : PySem.W.Frag} {H : Hp} {p : Addr} {xs : List V} (h : TupF H p xs) : SqT K H p xs := let ⟨o, e, _⟩ := h; .inl (.inr ⟨o, e⟩)
theorem TupF.ty {K : PySem.W.Frag} {H : Hp} {p : Addr} {xs : List V} (h : TupF H p xs) : TyX K H (.ref p) (.type "tuple") := let ⟨_, e, _⟩ := h; .fTuple e
theorem TupF.same {H H' : Hp} {p : Addr} {xs : List V} (h : TupF H p xs) (s : Same H H') : TupF H' p xs := let ⟨o, e, d⟩ := h; ⟨o, s _ _ e, d⟩
def tTupF (t : TA) : TE := fun σ H Q => t σ H fun xs H1 => xs.length ≤ sizeLine ∧ ∀ (p : Addr) (o : Obj), H1 p = none → o.dict = none → Q (.ref p) (upd H1 p (.frz o (.tup xs)))
section
variable {X : Cx} {es : List Expr} {e : Expr} {t : TA} {pos apos cpos : Pos}
theorem pe_tupF {x1} (h : PA X es t) : PE X (.Tuple es x1 pos) (tTupF t) := by
  refine ⟨fun pins s σ H Q I hq => ?_⟩
  refine wpAny_Tuple_spliced (thn (h.run pos pins s σ H _ I hq) fun us s1 ⟨xs, H1, I1, r, z, q⟩ => ⟨by rw [← r.length]; exact z, ?_⟩)
  have hf : H1 s1.heap.objs.size = none := I1.hok.fresh (Nat.le_refl _)
  refine ⟨.ref s1.heap.objs.size, _, I1.laid (t' := s1.toks) (o := .frz _ (.tup xs)) (fun b u e => Heap.get?_push_of_some _ e) (Nat.le_refl _) ⟨Heap.get?_push_size _ rfl, z, us, r, ⟨_, Heap.get?_push_size _ rfl, rfl, _, rfl⟩⟩, rfl, q _ _ hf rfl⟩
def tBMF (r : V → List V → Hp → VK → Prop) (to : TE) (t : TA) : TE := fun σ H Q => to σ H fun x H1 => (∃ p xs, x = .ref p ∧ TupF H1 p xs) ∧ t σ H1 fun xs H2 => r x xs H2 Q
variable {o : Expr} {to : TE} {name : Str} {id : String} {r : V → List V → Hp → VK → Prop}
theorem pe_bmF (pa : PlainAttrs "tuple") (slot : Slot "tuple" name id) (hty : typeOf (.builtin id) = pure (.type "method_descriptor")) (hm : MtR X id r) (ho : PE X o to) (ha : PA X (e :: es) t)
    (hbase : attributeBase o name X.env (eval o X.env) = eval o X.env := by rfl)
    (hfew : ((backTo cpos (starEach (e :: es) X.env)).all (fun x => !x.1) && (backToKw cpos (keywordEach [] X.env)).all (fun x => x.1.isSome)
      && decide ((e :: es).length + ([] : List Keyword).length + (if ([] : List Keyword).isEmpty then 0 else 1) < 30)) = true := by rfl)
    (hline : (apos.endLine == cpos.line) = true := by rfl) (hs : starEach (e :: es) X.env = (false, eval e X.env) :: starEach es X.env := by rfl) (hplain : (backTo cpos (starEach es X.env)).any (·.1) = false := by rfl) :
    PE X (.Call (.Attribute o name apos) (e :: es) [] cpos) (tBMF r to t) := by
  refine ⟨fun pins s σ H Q I h => ?_⟩
  refine wpAny_Call_method_late hbase hfew hline rfl (thn (ho.run pins s σ H _ I h) fun v s1 ⟨x, H1, I1, r1, ⟨p, xs, ex, ob, eo, dn⟩, q1⟩ => ?_)
  subst ex
  obtain rfl : v = Value.ref p := r1
  obtain ⟨hget, _, its, _, o2, h2, hc, _⟩ : ObjOk X.prog X.w H1 s1.heap p (.frz ob (.tup xs)) := I1.hok p _ eo
  have e2 : o2 = ob := by
    rw [hget] at h2
    exact (Option.some.inj h2).symm
  subst e2
  refine ⟨"tuple", id, pa, slot, hty, ⟨o2, hget, hc⟩, fun a ea => ?_, ?_⟩
  · injection ea with ea
    subst ea
    exact ⟨o2, hget, dn⟩
  have hA := ha.run cpos pins s1 σ H1 _ I1 q1
  rw [hs] at hA ⊢
  refine Calls.callWith_builtin (by show (false || (backTo cpos (starEach es X.env)).any (·.1)) = false; rw [hplain] <;> rfl) (Calls.evalArgs_plain ?_)
  exact thn hA fun us s2 ⟨vs, H2, I2, r2, q2⟩ => hm pins s2 σ H2 (.ref p) vs _ us Q I2 rfl r2 q2
end
end Bk
/-! Own special methods of an own class, by their promises. -/
namespace Ow
open PySem PySem.Spec PyProof.Rows L2
section
variable {X : Cx} {CX : CXT} {k : Nat} {C f : Addr} {fd : FuncData} {ps : List Str} {sp : Sp} {E : XK}
/-- a def run somewhere below the body -/
theorem run_at {B : Around} {pins : List (Addr × Obj)} {σ : L2.St} {H : Hp} {s : Shared} {Q : VK} {us : List Value} {vs : List V} (F : FnOk X.prog X.w X.K X.mg X.base CX k f fd ps sp) (hr : Room k B) (fr : B.frames = X.A.frames) (hb : Binds X.K fd ps []) (hx : Passes CX X E)
    (I : Inv X pins σ H s) (r : Vals vs us) (h : sp vs H Q E) : wpAny (model X.prog X.w) B (call (.ref f) us) (EP X pins σ Q) X.xe s := by
  have e := I.env0
  have e1 : Env0 X.prog X.w X.K X.mg X.base B X.stack s H := { e with frames := fr.trans e.frames }
  have hl : us.length = ps.length := r.length.symm.trans (F.len _ _ _ _ h)
  have b1 := hb s us I.kIn ((congrArg List.length (List.append_nil us)).trans hl)
  rw [List.append_nil] at b1
  refine wpAny_call (codeAny_mono (F.run B X.stack s H ⟨us, []⟩ us vs Q E hr e1 b1 r h) fun res s2 q => ?_)
  match res, q with
  | .error er, q => exact hx pins σ H s er s2 I q
  | .ok (.ret _), q => exact I.after q
/-- what the library's rules ask of an instance -/
theorem inst {pins : List (Addr × Obj)} {σ : L2.St} {H : Hp} {s : Shared} {a dx : Addr} {fs : List (Str × V)} (I : Inv X pins σ H s) (e : H a = some (.ins C dx fs)) : ∃ od, PySem.W.InstAt s.heap a (PySem.W.instObj C dx) C (some od) := by
  obtain ⟨mA, J, _⟩ := ins_get I.hok e
  obtain ⟨od, J2, _⟩ := J.look
  exact ⟨od, J2⟩
/-- an own method by its name -/
structure Spc (K : PySem.W.Frag) (C f : Addr) (m : Str) : Prop where
  at_ : PySem.W.findIn K (.ref C) m = some (some (.ref f))
  fn : PySem.W.isFn K (.ref f) = true
def rLenO (C : Addr) (sp : Sp) (E : XK) : List V → Hp → VK → Prop := fun xs H Q => ∃ a dx fs, xs = [.ref a] ∧ H a = some (.ins C dx fs) ∧ sp [.ref a] H (fun v H2 => ∃ n : Int, v = .int n ∧ 0 ≤ n ∧ n < 2 ^ 63 ∧ Q (.int n) H2) E
theorem call_lenO (S : Spc X.K C f "__len__") (F : FnOk X.prog X.w X.K X.mg X.base CX k f fd ps sp) (hr : Room (k + 1) X.A) (hb : Binds X.K fd ps []) (hx : Passes CX X E) : CallR X (.builtin "len") (rLenO C sp E) := by
  intro pins s σ H xs us Q I r h
  obtain ⟨a, dx, fs, rfl, ea, h⟩ := h
  obtain ⟨u, rfl, rx⟩ := vals1 r
  cases rx
  obtain ⟨od, J⟩ := inst I ea
  obtain ⟨m, hF⟩ := I.fr
  refine PySem.W.len_K hF I.ok.mod.kin J S.at_ S.fn (thn (run_at F hr.in1 rfl hb hx I r h) fun v s2 hv => ?_)
  obtain ⟨x, H2, I2, rx, n, rfl, h0, h1, q⟩ := hv
  obtain ⟨t, rfl⟩ := rx
  exact ⟨⟨h0, h1⟩, .int n, H2, I2.tok _, ⟨_, rfl⟩, q⟩
def rStrO (C : Addr) (sp : Sp) (E : XK) : List V → Hp → VK → Prop := fun xs H Q => ∃ a dx fs, xs = [.ref a] ∧ H a = some (.ins C dx fs) ∧ sp [.ref a] H (fun v H2 => ∃ z : Str, v = .str z ∧ Q (.str z) H2) E
theorem call_strO (S : Spc X.K C f "__str__") (F : FnOk X.prog X.w X.K X.mg X.base CX k f fd ps sp) (hr : Room (k + 2) X.A) (hb : Binds X.K fd ps []) (hx : Passes CX X E) : CallR X (.type "str") (rStrO C sp E) := by
  intro pins s σ H xs us Q I r h
  obtain ⟨a, dx, fs, rfl, ea, h⟩ := h
  obtain ⟨u, rfl, rx⟩ := vals1 r
  cases rx
  obtain ⟨od, J⟩ := inst I ea
  refine PySem.W.kso_call hr.in1.in1.units0 I.kIn J S.at_ S.fn (thn (run_at F hr.in1.in1 rfl hb hx I r h) fun v s2 hv => ?_)
  obtain ⟨x, H2, I2, rx, z, rfl, q⟩ := hv
  obtain ⟨t, rfl⟩ := rx
  exact ⟨.str z, H2, I2, ⟨_, rfl⟩, q⟩
/-- x in an instance -/
def rInO (C : Addr) (sp : Sp) (E : XK) : R2 := fun x y H Q => ∃ a dx fs, y = .ref a ∧ H a = some (.ins C dx fs) ∧ sp [.ref a, x] H (fun v H2 => ∃ b, v = .bl b ∧ Q (.bl b) H2) E
theorem op_inO (S : Spc X.K C f "__contains__") (F : FnOk X.prog X.w X.K X.mg X.base CX k f fd ps sp) (hr : Room k X.A) (hb : Binds X.K fd ps []) (hx : Passes CX X E) : OpR X (compareOp .In) (rInO C sp E) := by
  intro pins s σ H x y v u Q I rx ry h
  obtain ⟨a, dx, fs, rfl, ea, h⟩ := h
  cases ry
  obtain ⟨od, J⟩ := inst I ea
  obtain ⟨m, hF⟩ := I.fr
  refine PySem.W.in_K hF I.ok.mod.kin J S.at_ S.fn (thn (run_at (vs := [.ref a, x]) F hr rfl hb hx I (.cons rfl (.cons rx .nil)) h) fun w s2 hv => ?_)
  obtain ⟨z, H2, I2, rz, b, rfl, q⟩ := hv
  cases rz
  exact wpAny_truthy_bool ⟨.bl b, H2, I2, rfl, q⟩
/-- instance[i] -/
def tSubO (C : Addr) (sp : Sp) (E : XK) (ta tb : TE) : TE := fun σ H Q => ta σ H fun x H1 => tb σ H1 fun y H2 => ∃ a dx fs, x = .ref a ∧ H2 a = some (.ins C dx fs) ∧ sp [.ref a, y] H2 Q E
theorem pe_subO {a b : Expr} {ta tb : TE} {pos : Pos} (S : Spc X.K C f "__getitem__") (hfn : PySem.W.fnIn X.K f = true) (F : FnOk X.prog X.w X.K X.mg X.base CX k f fd ps sp) (hr : Room (k + 1) X.A) (hb : Binds X.K fd ps []) (hx : Passes CX X E) (he : PE X a ta) (hi : PE X b tb)
    (hs : ∀ x i, subscripted b true (.ref x) i = runValue (.builtin "lifetime.subscript" ⟨[.ref x, i], []⟩) := by intro _ _; with_unfolding_all rfl) : PE X (.Subscript a b pos) (tSubO C sp E ta tb) := by
  refine ⟨fun pins s σ H Q I h => Subscript_ (binT he hi I h fun v u s2 x y H2 I2 rx ry h2 => ?_)⟩
  obtain ⟨p, dx, fs, rfl, ea, h2⟩ := h2
  cases rx
  obtain ⟨od, J⟩ := inst I2 ea
  obtain ⟨m, hF⟩ := I2.fr
  exact PySem.W.sub_K hF I2.ok.mod.kin J S.at_ hfn S.fn (run_at (vs := [.ref p, y]) F hr.in1 rfl hb hx I2 (.cons rfl (.cons ry .nil)) h2) (hs _ _)
/-- the type of the other side, as == asks for it -/
def Oth (X : Cx) (C : Addr) (H : Hp) (y : V) : Prop := (∃ b dy gs, y = .ref b ∧ H b = some (.ins C dy gs)) ∨ ((∃ z, y = .str z) ∧ PySem.W.subIn X.K (.type "str") (.ref C) = some false) ∨ (y = .non ∧ PySem.W.subIn X.K (.type "NoneType") (.ref C) = some false)
theorem Oth.kind {H : Hp} {y : V} {u : Value} {pins : List (Addr × Obj)} {σ : L2.St} {s : Shared} (I : Inv X pins σ H s) (o : Oth X C H y) (r : RelV y u) : ∃ tb, PySem.W.Looks (model X.prog X.w) s.heap (typeOf u) tb ∧ PySem.W.notFirst X.K C tb = true := by
  rcases o with ⟨b, dy, gs, rfl, eb⟩ | ⟨⟨z, rfl⟩, hs⟩ | ⟨rfl, hs⟩
  · cases r
    obtain ⟨od, J⟩ := inst I eb
    exact ⟨_, J.type, by simp [PySem.W.notFirst]⟩
  · obtain ⟨t, rfl⟩ := r
    exact ⟨.type "str", .of_pure rfl, by simp [PySem.W.notFirst, hs]⟩
  · cases r
    exact ⟨.type "NoneType", .of_pure rfl, by simp [PySem.W.notFirst, hs]⟩
def rCmpO (X : Cx) (C : Addr) (sp : Sp) (E : XK) : R2 := fun x y H Q => ∃ a dx fs, x = .ref a ∧ H a = some (.ins C dx fs) ∧ Oth X C H y ∧ sp [.ref a, y] H (fun v H2 => ∃ b, v = .bl b ∧ Q (.bl b) H2) E
theorem cmpO {op : CmpOp} {m : Str} (hm : (cmpInfo op).2.1 = m) (S : Spc X.K C f m) (F : FnOk X.prog X.w X.K X.mg X.base CX k f fd ps sp) (hr : Room k X.A) (hb : Binds X.K fd ps []) (hx : Passes CX X E) : OpR X (richCompare op) (rCmpO X C sp E) := by
  intro pins s σ H x y v u Q I rx ry h
  obtain ⟨a, dx, fs, rfl, ea, o, h⟩ := h
  cases rx
  obtain ⟨od, J⟩ := inst I ea
  obtain ⟨mm, hF⟩ := I.fr
  obtain ⟨tb, lb, nb⟩ := o.kind I ry
  refine PySem.W.cmp_K hr.units0 hF I.ok.mod.kin J lb nb (by rw [hm]; exact S.at_) S.fn (thn (run_at (vs := [.ref a, y]) F hr rfl hb hx I (.cons rfl (.cons ry .nil)) h) fun w s2 hv => ?_)
  obtain ⟨z, H2, I2, rz, b, rfl, q⟩ := hv
  cases rz
  exact ⟨.bl b, H2, I2, rfl, q⟩
theorem op_eqO (S : Spc X.K C f "__eq__") (F : FnOk X.prog X.w X.K X.mg X.base CX k f fd ps sp) (hr : Room k X.A) (hb : Binds X.K fd ps []) (hx : Passes CX X E) : OpR X (compareOp .Eq) (rCmpO X C sp E) := cmpO (op := .Eq) rfl S F hr hb hx
end
end Ow
namespace Ow
open PySem PySem.W PySem.Calls PyProof.Rows
section
variable {prog : Program} {w : World} {A : Around} {E : Value → Shared → Prop} {s : Shared} {K : Frag} {x C L f : Addr} {h₀ : Heap} {m : Str → Option Value} {ox : Obj} {od : Option Obj} {b tb : Value}
theorem bound_b {M : Model} {name : Str} {id : String} {args : List Value} {Q : Option Value → Shared → Prop} (X : K.In s.heap) (I : InstAt s.heap x ox C od) (hs : findIn K (.ref C) name = some (some (.builtin id)))
    (hb : ∀ self, bindSpecial (.builtin id) self = pure (.builtin id, [self])) (h : wpAny M A (call (.builtin id) (.ref x :: args)) (fun v => Q (some v)) E s) : wpAny M A (callSpecialIfBound? (.ref x) name args) Q E s := by
  have fin : wpAny M A (call (.builtin id) ([.ref x] ++ args) >>= fun v => pure (some v)) Q E s := wpAny_bind (wpAny_mono h (fun _ _ z => wpAny_pure z) fun _ _ z => z)
  have bd := (Looks.of_pure (M := M) (h := s.heap) (hb (.ref x)))
  simp only [callSpecialIfBound?, bindSpecialIfBound?]
  refine wpAny_holding (wpAny_bind (wpAny_bind (wpAny_bind (I.type.here ((looks_findIn X hs).here (wpAny_bind (wpAny_askSetting (wpAny_ite ?_))))))))
  split
  · exact wpAny_bind (bd.here (wpAny_pure (by exact fin)))
  · exact wpAny_tryCatch (wpAny_bind (bd.here (wpAny_pure (by exact fin))))
open Builtin in
/-- != by an own == -/
theorem ne_K {Q : Value → Shared → Prop} (hu : A.units < cLine) (hu1 : A.in1.units < cLine) (F : Fr h₀ L s.heap m) (X₀ : K.In h₀) (I : InstAt s.heap x ox C od) (hb : Looks (model prog w) s.heap (typeOf b) tb) (hn : notFirst K C tb = true)
    (hne : findIn K (.ref C) "__ne__" = some (some (.builtin "object.__ne__"))) (he : findIn K (.ref C) "__eq__" = some (some (.ref f))) (hf : isFn K (.ref f) = true) (hm : mroIn K C (.type "object") = some true)
    (h : wpAny (model prog w) A.in1 (call (.ref f) [.ref x, b]) (fun v s2 => ∃ r, v = .bool r ∧ Q (.bool (!r)) s2) E s) : wpAny (model prog w) A (richCompare .NotEq (.ref x) b) Q E s := by
  have X := X₀.keeps F.keep
  have body : wpAny (model prog w) A.in1 (Builtin.«object.__ne__» ⟨[.ref x, b], []⟩) (fun fin s2 => ∃ r, fin = .done (.ret (.bool r)) ∧ Q (.bool r) s2) E s := by
    unfold Builtin.«object.__ne__»
    refine wpAny_bind (m := slotArgs "__ne__" 1 _) (wpAny_pure (wpAny_bind (m := cRoomFor _ _) (wpAny_cRoomFor hu1 (wpAny_bind (m := callSpecialIfBound? (.ref x) (Str.ofString "__eq__") [b]) (ifBound_K X I he hf (wpAny_mono h (fun v s2 hv => ?_) fun _ _ z => z))))))
    obtain ⟨r, rfl, q⟩ := hv
    exact wpAny_bind (m := truthy (.bool r)) (wpAny_truthy_bool (wpAny_pure ⟨_, rfl, q⟩))
  have one : wpAny (model prog w) A (tryCompare (.ref x) "__ne__" b) (fun r s2 => ∃ v, r = some v ∧ Q v s2) E s := by
    unfold tryCompare
    refine wpAny_bind (bound_b X I hne PySem.F.slot_object_ne.bind (wpAny_call (codeAny_call_builtin PySem.F.slot_object_ne.plain PySem.F.entry_object_ne
      (check_slot (i := "object.__ne__") (owner := "object") (n := "__ne__") (by decide +kernel) (by decide +kernel) (I.type.andThen (looks_mroIn X hm)) (PySem.F.args_object_ne_2 _ _) (wpAny_mono body (fun fin s2 hv => ?_) fun _ _ z => z)))))
    obtain ⟨r, rfl, q⟩ := hv
    exact wpAny_pure ⟨_, rfl, q⟩
  unfold richCompare
  simp only [oneThing_ref]
  refine wpAny_holding (wpAny_bind (wpAny_cRoomFor hu (wpAny_bind (I.type.here (wpAny_bind (hb.here ?_))))))
  split
  · rename_i q
    have e : subIn K tb (.ref C) = some false := (Bool.or_eq_true_iff.mp hn).elim (fun e => absurd (beq_iff_eq.mp e).symm (by simpa using q)) beq_iff_eq.mp
    refine wpAny_bind ((looks_subIn X e).here ?_)
    simp only [Bool.false_eq_true, if_false]
    exact wpAny_bind (wpAny_mono one (fun r s2 ⟨v, e, q⟩ => by subst e; exact wpAny_pure q) fun _ _ z => z)
  · refine wpAny_bind (wpAny_pure ?_)
    simp only [Bool.false_eq_true, if_false]
    exact wpAny_bind (wpAny_mono one (fun r s2 ⟨v, e, q⟩ => by subst e; exact wpAny_pure q) fun _ _ z => z)
end
end Ow
namespace Ow
open PySem PySem.Spec PyProof.Rows L2
section
variable {X : Cx} {CX : CXT} {k : Nat} {C f : Addr} {fd : FuncData} {ps : List Str} {sp : Sp} {E : XK}
/-- the class takes != from its own == -/
structure NeC (K : PySem.W.Frag) (C f : Addr) : Prop where
  eq : Spc K C f "__eq__"
  ne : PySem.W.findIn K (.ref C) "__ne__" = some (some (.builtin "object.__ne__"))
  obj : PySem.W.mroIn K C (.type "object") = some true
def rNeO (X : Cx) (C : Addr) (sp : Sp) (E : XK) : R2 := fun x y H Q => ∃ a dx fs, x = .ref a ∧ H a = some (.ins C dx fs) ∧ Oth X C H y ∧ sp [.ref a, y] H (fun v H2 => ∃ b, v = .bl b ∧ Q (.bl (!b)) H2) E
theorem op_neO (S : NeC X.K C f) (F : FnOk X.prog X.w X.K X.mg X.base CX k f fd ps sp) (hr : Room (k + 1) X.A) (hb : Binds X.K fd ps []) (hx : Passes CX X E) : OpR X (compareOp .NotEq) (rNeO X C sp E) := by
  intro pins s σ H x y v u Q I rx ry h
  obtain ⟨a, dx, fs, rfl, ea, o, h⟩ := h
  cases rx
  obtain ⟨od, J⟩ := inst I ea
  obtain ⟨mm, hF⟩ := I.fr
  obtain ⟨tb, lb, nb⟩ := o.kind I ry
  refine ne_K hr.units0 hr.in1.units0 hF I.ok.mod.kin J lb nb S.ne S.eq.at_ S.eq.fn S.obj (thn (run_at (vs := [.ref a, y]) F hr.in1 rfl hb hx I (.cons rfl (.cons ry .nil)) h) fun w s2 hv => ?_)
  obtain ⟨z, H2, I2, rz, b, rfl, q⟩ := hv
  cases rz
  exact ⟨b, rfl, .bl (!b), H2, I2, rfl, q⟩
/-- an instance's truth by __bool__ -/
theorem call_boolO (S : Spc X.K C f "__bool__") (F : FnOk X.prog X.w X.K X.mg X.base CX k f fd ps sp) (hr : Room (k + 2) X.A) (hb : Binds X.K fd ps []) (hx : Passes CX X E) : CallR X (.type "bool") (fun xs H Q => ∃ a dx fs, xs = [.ref a] ∧ H a = some (.ins C dx fs) ∧ sp [.ref a] H (fun v H2 => ∃ b, v = .bl b ∧ Q (.bl b) H2) E) := by
  intro pins s σ H xs us Q I r h
  obtain ⟨a, dx, fs, rfl, ea, h⟩ := h
  obtain ⟨u, rfl, rx⟩ := vals1 r
  cases rx
  obtain ⟨od, J⟩ := inst I ea
  refine callType_codes (T := "bool") (Bi := Builtin.«object.__init__») (Q₁ := fun r s₁ => ∃ b, r = .bool b ∧ EP X pins σ Q r s₁) PySem.F.called_bool (PySem.F.typeCall_bool_1 _) PySem.F.entry_object_init ?_ ?_
  · refine codeAny_of_tree ?_
    show wpAny _ X.A.in1.in1 (do checkBuiltinCall "bool.__new__" ⟨[.type "bool", .ref a], []⟩; again (.builtin "bool.__new__" ⟨[.type "bool", .ref a], []⟩)) _ _ s
    refine wpAny_bind (wpAny_of_eq (PySem.F.newCall_bool_1 _) (wpAny_pure ⟨plainId_quiet (by decide +kernel) _, codeAny_builtin PySem.F.entry_bool_new ?_⟩))
    rw [Around.under_plainId (by decide +kernel) _]
    have f1 := PySem.F.conv_sub_bool
    obtain ⟨m, hF⟩ := I.fr
    have tr : wpAny (model X.prog X.w) X.A.in1.in1 (truthy (.ref a)) (fun b s2 => EP X pins σ Q (.bool b) s2) X.xe s := PySem.W.truthy_K hF I.ok.mod.kin J S.at_ S.fn (thn (run_at F hr.in1.in1 rfl hb hx I r h) fun v s2 hv => by
      obtain ⟨z, H2, I2, rz, b, rfl, q⟩ := hv
      cases rz
      exact ⟨.bl b, H2, I2, rfl, q⟩)
    refine wpAny_bind (m := isType (.type "bool")) (wpAny_pure (wpAny_bind (m := isSubtype _ _) (wpAny_of_eq f1 ?_)))
    refine wpAny_bind (m := someArgs "bool" 0 1 _) (wpAny_pure ?_)
    exact wpAny_bind (wpAny_mono tr (fun b s2 q => wpAny_pure ⟨_, rfl, q⟩) fun _ _ z => z)
  · rintro obj s₁ ⟨b, rfl, hq⟩
    exact ⟨PySem.typeIs_bool _ _, PySem.F.args_object_init_2 _ _, object_init_meets PySem.F.called_bool.init.lookup PySem.F.called_bool.made (by decide) X.prog X.w X.A.in1 _ s₁ ⟨PySem.typeIs_bool _ _, rfl, hq⟩⟩
end
end Ow
/-! Several except clauses, each with a name. -/
namespace Bk
open PySem PySem.Spec PyProof.Rows L2
/-- the ends of a suite behind which slot i is let go -/
def dropE (i : Nat) (D : Ends) : Ends := { nx := fun σ' H' => D.nx (σ'.set i none) H', rt := D.rt, bk := fun σ' H' => D.bk (σ'.set i none) H', ct := fun σ' H' => D.ct (σ'.set i none) H' }
/-- what the clauses wish of an exception of the body, one after the other; i the name's slot -/
def wManyA (K : PySem.W.Frag) (Wout : WX) (D : Ends) : List (Value × Nat × (Addr → Value → Option Addr → TS)) → WX
  | [] => Wout
  | (c, i, ts) :: r => fun cls d σ H => ∃ b, PySem.W.exmOne K cls c = some b ∧ (b = true → ∀ a, H a = none → ts a cls d (dropE i D) (σ.set i (some (.ref a))) H) ∧ (b = false → wManyA K Wout D r cls d σ H)
inductive HdsA (X : Cx) : List ExceptHandler → List (Value × Nat × (Addr → Value → Option Addr → TS)) → Prop
  | nil : HdsA X [] []
  | cons {x n : Str} {c : Value} {i : Nat} {ts : Addr → Value → Option Addr → TS} {b₀ : Stmt} {suite : List Stmt} {np pos' : Pos} {hds : List ExceptHandler} {l : List (Value × Nat × (Addr → Value → Option Addr → TS))} (hi : X.N[i]? = some n) (hln : X.env.kindOf n = some .local) (hc : Names X x c)
      (hsu : ∀ (a : Addr) (oe : Obj) (cls : Value) (d : Option Addr) (pn : List (Addr × Obj)), Zc cls d oe → (∃ vs, oe.data = .fields vs) → PSs (X.suite a ((a, oe) :: pn)) (b₀ :: suite) (ts a cls d)) (r : HdsA X hds l) :
      HdsA X (.ExceptHandler (some (.Name x np)) (some n) (b₀ :: suite) pos' :: hds) ((c, i, ts) :: l)
section
variable {X : Cx} {body : List Stmt} {h₀ : ExceptHandler} {hds : List ExceptHandler} {l : List (Value × Nat × (Addr → Value → Option Addr → TS))} {pos : Pos} {tb : WX → TS} {Wout : WX}
theorem ps_try_manyA (hs : X.stack = X.env :: X.outer) (hf : X.env.frame = some X.env.locals) (hN : X.N.Nodup) (tk : Takes X Wout)
    (hb : ∀ (W : WX) (pn : List (Addr × Obj)) (xe : Value → Shared → Prop), Takes (X.tr pn xe) W → PassesOwn (model X.prog X.w) X.A X.env xe → PSs (X.tr pn xe) body (tb W))
    (hh : HdsA X (h₀ :: hds) l) : PS X (.Try body (h₀ :: hds) [] [] pos) (fun D σ H => tb (wManyA X.K Wout D l) D σ H) := by
  refine ⟨fun pins s σ H D I h => ?_⟩
  have ok := I.ok
  have hfr : X.A.frames = some (X.env :: X.outer) := by rw [ok.frames, hs]
  refine wpAny_Try_except ?_
  refine wpAny_mono ((hb (wManyA X.K Wout D l) (X.pn ++ pins) (fun e s₁ => wpAny (model X.prog X.w) X.A (noteFrame e X.env) (fun _ s₂ => wpAny (model X.prog X.w) X.A (setFlight e none) (fun _ s₃ =>
    wpAny (model X.prog X.w) X.A (handleBy e X.env (h₀ :: hds)) (SP X pins D) X.xe s₃) X.xe s₂) X.xe s₁) (fun u s' xx => ?_) PassesOwn.looking).run [] s σ H D (I.toTry _) h) (fun f s1 hsp => ?_) (fun e s1 he => he)
  · -- the catch
    obtain ⟨a, B, sI, pins', σ', H', cls, d, rfl, J', nb, up, sky, na, os, ag, w⟩ := xx
    have J : Inv X pins σ' H' sI := J'.ofTry ok
    have sky' : Sky B (X.env :: X.outer) a (Zc cls d) X.env.locals s'.heap := by rw [← hs]; exact sky
    show wpAny (model X.prog X.w) X.A (noteFrame (.ref a) X.env) _ _ _
    refine Sky.land Zc.steady hfr hf sky' fun h3 fl3 up3 => ?_
    have J3 : Inv X pins σ' H' { s' with heap := h3 } := J.landed nb fl3.1 (up.trans up3) os ag
    obtain ⟨oe3, vs3, he3, hz3, hd3⟩ := fl3.there
    have notFr : ∀ {h : Heap} {o : Obj} {vs : Array Value}, h.FunFrames B (X.env :: X.outer) → h.get? a = some o → o.data = .fields vs → a ∉ frs (X.env :: X.outer) := fun {h o vs} ff e dd hm => by
      obtain ⟨_, o', e', hnf⟩ := ff.mem hm
      rw [e] at e'; cases e'
      exact hnf _ dd
    have nfr := notFr fl3.2.2.1 he3 hd3
    have nL : a ≠ X.env.locals := fun z => nfr (List.mem_filterMap.mpr ⟨X.env, List.mem_cons_self, by rw [hf, z]⟩)
    have nF : a ∉ X.fs := fun hm => by
      obtain ⟨e, he, q⟩ := List.mem_filterMap.mp hm
      exact nfr (List.mem_filterMap.mpr ⟨e, List.mem_cons_of_mem _ he, q⟩)
    have S3 := J3.suite he3 hd3 na nL nF
    have go : ∀ {hds' : List ExceptHandler} {l' : List (Value × Nat × (Addr → Value → Option Addr → TS))}, HdsA X hds' l' → wManyA X.K Wout D l' cls d σ' H' →
        wpAny (model X.prog X.w) X.A (handleBy (.ref a) X.env hds') (SP X pins D) X.xe { s' with heap := h3 } := by
      intro hds' l' hk
      induction hk with
      | nil =>
        intro w
        refine wpAny_handleBy_nil ?_
        obtain ⟨k1, k2, k3, oe, vs, T, oT, ts', he, hz, hd, h1, hr⟩ := id fl3
        unfold PySem.passOn
        refine wpAny_bind (wpAny_field he hd h1 ?_)
        rw [if_neg (show ¬ ((Value.ref T == Value.none) = true) from by simp)]
        have fin : wpAny (model X.prog X.w) X.A (setFlight (.ref a) X.env.frame) (fun _ s4 => wpAny (model X.prog X.w) X.A (throw (.ref a) : Sem Flow) (SP X pins D) X.xe s4) X.xe { s' with heap := h3 } := by
          rw [hf]
          refine HandSPX.setFlight_upZ fl3 fun h4 hh4 up4 => wpAny_throw (tk _ _ ?_)
          exact ⟨a, B, sI, pins, σ', H', cls, d, rfl, J, nb, (up.trans up3).trans up4, .inr (.inr (by rw [hs]; exact hh4)), na, os, ag, w⟩
        first
          | exact wpAny_bind (wpAny_pure (wpAny_bind fin))
          | exact wpAny_bind fin
      | @cons x n c i ts b₀ suite np pos' hds2 l2 hi hln hc hsu r ih =>
        intro w
        obtain ⟨b, hb1, hyes, hno⟩ := w
        refine wpAny_handleBy_cons (codeAny_handlers_test ?_) (by intro q; cases q)
        have LT : PySem.W.Looks (model X.prog X.w) h3 (typeOf (.ref a)) cls := fun A Q E s k q => wpAny_typeOf_ref (k _ _ he3) (by rw [hz3.1]; exact q)
        have LM := PySem.W.exm_one (M := model X.prog X.w) (J3.kIn) LT hb1
        have test : ∀ {Q : Value → Shared → Prop} {E : Value → Shared → Prop}, Q c { s' with heap := h3 } → wpAny (model X.prog X.w) (X.A.mark (some (.ref a))) (eval (.Name x np) X.env) Q E { s' with heap := h3 } := fun {Q E} q => by
          obtain ⟨hg, hdbg, hm | ⟨hm, hv, hnn⟩⟩ := hc
          · exact ld_glob (X := X.suite a ((a, oe3) :: (X.pn ++ pins))) S3 hg hm q hdbg
          · exact ld_blt (X := X.suite a ((a, oe3) :: (X.pn ++ pins))) S3 hg hm hv q hnn hdbg
        refine test (LM.here ?_)
        cases b with
        | true =>
          refine codeAny_handlers_suite_as ?_
          refine HandSPX.lands_againZ fl3 fun h4 fl4 up4 => ?_
          have J4 : Inv X pins σ' H' { s' with heap := h4 } := J.landed nb fl4.1 ((up.trans up3).trans up4) os ag
          obtain ⟨oe4, vs4, he4, hz4, hd4⟩ := fl4.there
          have S4 := J4.suite he4 hd4 na nL nF
          have hloc : Loc X.env.scope n := .inl hln
          refine store_ok (X := X.suite a ((a, oe4) :: (X.pn ++ pins))) (v := .ref a) S4 hN hi hloc rfl (fun s5 S5 => ?_) (.inr hln)
          refine wpAny_mono ((hsu a oe4 cls d (X.pn ++ pins) hz4 ⟨_, hd4⟩).run [] s5 _ H' _ S5 (hyes rfl a na)) (fun f s6 hsp => ?_) (fun _ _ z => False.elim z)
          have end_ : ∀ {σ6 : L2.St} {H6 : Hp} {Q : Shared → Prop}, Inv (X.suite a ((a, oe4) :: (X.pn ++ pins))) [] σ6 H6 s6 → (∀ s7, Inv X pins (σ6.set i none) H6 s7 → Q s7) →
              wpAny (model X.prog X.w) X.A (do bindName X.env n .none; unbindBehindTheSuite X.env n pos') (fun _ s7 => Q s7) X.xe s6 := fun {σ6 H6 Q} S6 hq => gone_ok (S6.unsuite ok) hN hi hln hq
          cases f with
          | next =>
            obtain ⟨σ6, H6, S6, q6⟩ := hsp
            exact end_ S6 fun s7 J7 => ⟨_, _, J7, q6⟩
          | brk =>
            obtain ⟨σ6, H6, S6, q6⟩ := hsp
            exact end_ S6 fun s7 J7 => ⟨_, _, J7, q6⟩
          | cont =>
            obtain ⟨σ6, H6, S6, q6⟩ := hsp
            exact end_ S6 fun s7 J7 => ⟨_, _, J7, q6⟩
          | ret u =>
            obtain ⟨v6, σ6, H6, S6, r6, q6⟩ := hsp
            exact end_ S6 fun s7 J7 => ⟨_, _, _, J7, r6, q6⟩
        | false =>
          show wpAny _ X.A (handleBy (.ref a) X.env hds2) _ _ _
          exact ih (hno rfl)
    exact go hh w
  · cases f with
    | next =>
      obtain ⟨σ', H', J', q⟩ := hsp
      exact wpAny_execs_nil ⟨σ', H', J'.ofTry ok, q⟩
    | brk =>
      obtain ⟨σ', H', J', q⟩ := hsp
      exact ⟨σ', H', J'.ofTry ok, q⟩
    | cont =>
      obtain ⟨σ', H', J', q⟩ := hsp
      exact ⟨σ', H', J'.ofTry ok, q⟩
    | ret u =>
      obtain ⟨v, σ', H', J', r, q⟩ := hsp
      exact ⟨v, σ', H', J'.ofTry ok, r, q⟩
end
end Bk
/-! C(**d) of a tracked dict with texts as keys. -/
namespace Bk
open PySem PySem.Spec PyProof.Rows L2
section
variable {prog : Program} {w : World} {κ : Type} [DecidableEq κ] {knd : KeyKind prog w κ} {A : Around} {E : Value → Shared → Prop} {s : Shared}
theorem dictPut_new {d : Addr} {kvs : List (κ × Value)} {k : κ} {key v : Value} {Q : Unit → Shared → Prop} (hkey : knd.is k key = true) (hm : s.heap.DictOf knd d kvs) (hn : k ∉ kvs.map (·.1)) (hsz : kvs.length ≤ sizeLine)
    (hQ : ∀ h', h'.DictOf knd d (kvs ++ [(k, v)]) → Heap.SameBut d s.heap h' → Q () { s with heap := h' }) :
    wpAny (model prog w) A (dictPut d (knd.hash k) key v) Q E s := by
  obtain ⟨o, es, ep, ho, hc, hd, hk, hp, hnd⟩ := hm
  have hes : es.size ≤ sizeLine := by
    have e1 := hp.length
    rw [Array.length_toList] at e1
    omega
  unfold dictPut
  refine wpAny_bind (wpAny_dictFind_of hkey ho hd hk ?_)
  have hidx : (es.findIdx? fun e => knd.is k e.key) = none := by
    have e1 : (es.findIdx? fun e => knd.is k e.key) = kvs.findIdx? fun kv => decide (kv.1 = k) := by
      rw [← hp.findIdx k]
      obtain ⟨l⟩ := es
      simp
    rw [e1, List.findIdx?_eq_none_iff]
    intro kv hkv
    exact decide_eq_false fun e => hn (List.mem_map.mpr ⟨kv, hkv, e⟩)
  rw [hidx]
  refine wpAny_updateDictKeys (hz := hes) ho hd (hQ _ ⟨_, _, ep + 1, Heap.get?_update_self _ ho (Obj.isFreed_of_dict (Obj.data_mapDictKeys hd _)), hc.mapDictKeys _, Obj.data_mapDictKeys hd _, hk.push hkey _, ?_, ?_⟩ (Heap.SameBut.update ..))
  · have := hp.append hkey (knd.hash k) v
    obtain ⟨l⟩ := es
    simpa using this
  · rw [List.map_append, List.nodup_append]
    refine ⟨hnd, by simp, ?_⟩
    intro a ha b hb
    simp only [List.map_cons, List.map_nil, List.mem_singleton] at hb
    subst hb
    exact fun e => hn (e ▸ ha)
/-- a mapping that is a dict of texts, merged into an empty one -/
theorem merge_new {d a : Addr} {kvs : List (κ × Value)} {Q : Unit → Shared → Prop} (hda : d ≠ a) (haS : (a == sysModules) = false) (hd : s.heap.DictOf knd d []) (ha : s.heap.DictOf knd a kvs) (hst : ∀ k v, knd.is k v = true → k ∈ kvs.map (·.1) → ∃ x t, v = .str x t) (hsz : kvs.length ≤ sizeLine)
    (hQ : ∀ h', h'.DictOf knd d kvs → Heap.SameBut d s.heap h' → Q () { s with heap := h' }) :
    wpAny (model prog w) A (mergeMapping d (.ref a) true) Q E s := by
  obtain ⟨oa, es, ep, hoa, hca, hdat, hka, hpa, hna⟩ := id ha
  obtain ⟨od, esd, epd, hod, hcd, hdd, hkd, hpd, hnd⟩ := id hd
  have hesd : esd = #[] := by
    have := hpd.length
    rw [Array.length_toList] at this
    exact Array.eq_empty_of_size_eq_zero this
  subst hesd
  unfold mergeMapping
  refine wpAny_bind (wpAny_isInstance ha.typeIs isSubtype_dict_dict ?_)
  rw [if_pos rfl]
  refine wpAny_bind (wpAny_specialOf ha.typeIs F.slot_dict_iter.lookup ?_)
  refine wpAny_bind (wpAny_pure ?_)
  simp only [beq_self_eq_true]
  rw [if_neg (by rw [haS]; exact Bool.false_ne_true)]
  refine wpAny_bind (wpAny_dictEntries hod hdd ?_)
  rw [if_pos (show (#[] : Array DictEntry).isEmpty = true from rfl)]
  refine wpAny_bind (wpAny_dictEntries hoa hdat ?_)
  have hstr : ∀ (i : Nat) (e : DictEntry), es[i]? = some e → ∃ x t, e.key = .str x t := by
    intro i e he
    have he' : es.toList[i]? = some e := by rw [Array.getElem?_toList]; exact he
    have hi := (List.getElem?_eq_some_iff.mp he').1
    have hl := hpa.length
    obtain ⟨⟨k, v⟩, hkv⟩ : ∃ kv, kvs[i]? = some kv := ⟨kvs[i]'(by omega), List.getElem?_eq_getElem _⟩
    obtain ⟨h1, _⟩ := hpa.get? he' hkv
    exact hst k e.key h1 (List.mem_map.mpr ⟨(k, v), List.mem_of_getElem? hkv, rfl⟩)
  refine wpAny_bind ?_
  rw [← Array.forIn_toList]
  refine wpAny_forIn_list _ (fun rest _ s' => s' = s ∧ ∀ e ∈ rest, ∃ x t, e.key = .str x t) _ ?_ ?_ _ _ ⟨rfl, fun e he => by
    obtain ⟨i, hi⟩ := List.mem_iff_getElem?.mp he
    rw [Array.getElem?_toList] at hi
    exact hstr i e hi⟩
  · rintro e rest _ s' ⟨rfl, h⟩
    obtain ⟨x, t, hx⟩ := h e List.mem_cons_self
    rw [hx]
    exact wpAny_pure ⟨rfl, fun e' he' => h e' (List.mem_cons_of_mem _ he')⟩
  rintro _ s' ⟨rfl, _⟩
  refine wpAny_bind (wpAny_dictEntries hoa hdat ?_)
  refine wpAny_bind (wpAny_dictEpoch hoa hdat ?_)
  refine wpAny_bind ?_
  refine wpAny_forIn_list _
      (fun rest _ s'' => ∃ h' i, s'' = { s' with heap := h' } ∧ rest = List.range' i (es.size - i) ∧ i ≤ es.size ∧ h'.DictOf knd d (kvs.take i) ∧ h'.get? a = some oa ∧ Heap.SameBut d s'.heap h')
      _ ?_ ?_ _ _ ⟨s'.heap, 0, rfl, by rw [List.range_eq_range']; rfl, Nat.zero_le _, hd, hoa, Heap.SameBut.refl _ _⟩
  · rintro x rest _ s'' ⟨h', i, rfl, hr, hi, hd', hoa', hs'⟩
    have hlt : i < es.size := by
      rcases Nat.lt_or_ge i es.size with h | h
      · exact h
      · rw [Nat.sub_eq_zero_of_le h] at hr; simp at hr
    obtain ⟨rfl, hrest⟩ : x = i ∧ rest = List.range' (i + 1) (es.size - (i + 1)) := by
      have e : es.size - i = (es.size - (i + 1)) + 1 := by omega
      rw [e, List.range'_succ] at hr
      injection hr with h1 h2
      exact ⟨h1, h2⟩
    refine wpAny_bind (wpAny_dictEntries hoa' hdat ?_)
    have hex : es[x]? = some es[x] := by simp [hlt]
    rw [hex]
    have hl := hpa.length
    rw [Array.length_toList] at hl
    obtain ⟨⟨k, v⟩, hkv⟩ : ∃ kv, kvs[x]? = some kv := ⟨kvs[x]'(by omega), List.getElem?_eq_getElem _⟩
    have hex' : es.toList[x]? = some es[x] := by rw [Array.getElem?_toList]; exact hex
    obtain ⟨hk1, hv1⟩ := hpa.get? hex' hkv
    have hh1 : es[x].hash = knd.hash k := by
      obtain ⟨k', h1, h2⟩ := hka es[x] (Array.getElem_mem hlt)
      rw [knd.inj _ _ _ hk1 h1]
      exact h2
    have hfresh : k ∉ (kvs.take x).map (·.1) := by
      intro hm
      obtain ⟨p, hp, e⟩ := List.mem_map.mp hm
      obtain ⟨m, hm1⟩ := List.mem_iff_getElem?.mp hp
      rw [List.getElem?_take] at hm1
      split at hm1
      · rename_i hmx
        have e1 : (kvs.map (·.1))[m]? = some k := by rw [List.getElem?_map, hm1]; exact congrArg some e
        have e2 : (kvs.map (·.1))[x]? = some k := by rw [List.getElem?_map, hkv]; rfl
        have := (List.getElem?_inj (List.getElem?_eq_some_iff.mp e1).1 hna).mp (e1.trans e2.symm)
        omega
      · cases hm1
    dsimp only
    refine wpAny_bind (wpAny_holding ?_)
    rw [if_pos trivial, hh1, hv1]
    obtain ⟨o1, es1, ep1, ho1, hc1, hd1, hk1', hp1, hn1⟩ := id hd'
    refine wpAny_bind (wpAny_dictFind_of hk1 ho1 hd1 hk1' ?_)
    have hidx : (es1.findIdx? fun e => knd.is k e.key) = none := by
      have e1 : (es1.findIdx? fun e => knd.is k e.key) = (kvs.take x).findIdx? fun kv => decide (kv.1 = k) := by
        rw [← hp1.findIdx k]
        obtain ⟨l⟩ := es1
        simp
      rw [e1, List.findIdx?_eq_none_iff]
      intro kv hkv
      exact decide_eq_false fun e => hfresh (List.mem_map.mpr ⟨kv, hkv, e⟩)
    rw [hidx, if_neg (by exact Bool.false_ne_true)]
    refine dictPut_new hk1 hd' hfresh (by rw [List.length_take]; omega) fun h'' hd'' hs'' => ?_
    have hoa'' : h''.get? a = some oa := (hs''.2 a (Ne.symm hda)).trans hoa'
    refine wpAny_bind (wpAny_dictEpoch hoa'' hdat ?_)
    rw [if_neg (by simp)]
    refine wpAny_pure ⟨h'', x + 1, rfl, hrest, hlt, ?_, hoa'', hs'.trans hs''⟩
    rw [List.take_add_one, hkv]
    exact hd''
  · rintro _ s'' ⟨h', i, rfl, hr, hi, hd', _, hs'⟩
    have hin : i = es.size := by
      rcases Nat.lt_or_ge i es.size with h | h
      · have e : es.size - i = (es.size - (i + 1)) + 1 := by omega
        rw [e, List.range'_succ] at hr
        exact nomatch hr
      · exact Nat.le_antisymm hi h
    have hl := hpa.length
    rw [Array.length_toList] at hl
    rw [hin, hl, List.take_length] at hd'
    exact wpAny_pure (hQ h' hd' hs')
end
end Bk
namespace Bk
open PySem PySem.Spec PyProof.Rows L2
section
variable {prog : Program} {w : World} {A : Around} {E : Value → Shared → Prop} {s : Shared} {κ : Type} [DecidableEq κ] {knd : KeyKind prog w κ}
/-- the keywords of ** with one dict of texts -/
theorem merged_one {f : Value} {x : Sem Value} {Q : Addr → Shared → Prop}
    (h : wpAny (model prog w) A x (fun m s1 => ∃ a kvs, m = .ref a ∧ s.heap.objs.size ≠ a ∧ (a == sysModules) = false ∧ s1.heap.DictOf knd s.heap.objs.size [] ∧ s1.heap.DictOf knd a kvs ∧ (∀ k v, knd.is k v = true → k ∈ kvs.map (·.1) → ∃ x t, v = .str x t) ∧ kvs.length ≤ sizeLine ∧
      ∀ h', h'.DictOf knd s.heap.objs.size kvs → Heap.SameBut s.heap.objs.size s1.heap h' → Q s.heap.objs.size { s1 with heap := h' }) E { s with heap := s.heap.push { cls := .type "dict", data := .dict #[] } }) :
    wpAny (model prog w) A (mergedKeywords f [(none, x)]) Q E s := by
  unfold mergedKeywords
  refine wpAny_bind (wpAny_alloc ?_)
  refine wpAny_bind (wpAny_holding ?_)
  dsimp only
  rw [List.forIn_cons]
  refine wpAny_bind (wpAny_bind ?_)
  dsimp only
  rw [if_pos (show ([] : List (Str × Sem Value)).isEmpty = true from rfl)]
  refine wpAny_bind (wpAny_pure ?_)
  refine wpAny_bind (thn h fun m s1 ⟨a, kvs, em, hne, haS, hd, ha, hst, hsz, hq⟩ => ?_)
  subst em
  refine wpAny_bind (wpAny_onRaise (wpAny_holding (wpAny_tryCatch (wpAny_onRaise (merge_new hne haS hd ha hst hsz fun h' hd' sb => ?_)))))
  refine wpAny_pure ?_
  dsimp only
  rw [List.forIn_nil]
  refine wpAny_pure ?_
  rw [if_pos (show ([] : List (Str × Sem Value)).isEmpty = true from rfl)]
  exact wpAny_pure (wpAny_pure (hq h' hd' sb))
/-- the keywords of a dict of texts -/
theorem keywords_of {f : Value} {d : Addr} {kvs : List (κ × Value)} {ks : List Str} {Q : List (Str × Value) → Shared → Prop} (hd : s.heap.DictOf knd d kvs) (hks : kvs.length = ks.length) (hk : ∀ (i : Nat) (k : κ) (z : Str) (v : Value), (kvs.map (·.1))[i]? = some k → ks[i]? = some z → knd.is k v = true → ∃ t, v = .str z t)
    (h : Q (ks.zip (kvs.map (·.2))) s) : wpAny (model prog w) A (keywordsIn f d) Q E s := by
  obtain ⟨o, es, ep, ho, hc, hdat, hke, hp, hn⟩ := hd
  unfold keywordsIn
  refine wpAny_bind (wpAny_dictEntries ho hdat ?_)
  refine wpAny_bind ?_
  rw [← Array.forIn_toList]
  have hl := hp.length
  refine wpAny_forIn_list _ (fun rest kw s' => s' = s ∧ ∃ i, rest = es.toList.drop i ∧ i ≤ es.toList.length ∧ kw = (ks.zip (kvs.map (·.2))).take i) _ ?_ ?_ _ _ ⟨rfl, 0, rfl, Nat.zero_le _, by rw [List.take_zero]⟩
  · rintro e rest kw s' ⟨rfl, i, hr, hi, rfl⟩
    have he : es.toList[i]? = some e := by
      have := congrArg (fun l : List DictEntry => l[0]?) hr
      simp only [List.getElem?_cons_zero, List.getElem?_drop, Nat.add_zero] at this
      exact this.symm
    have hlt := (List.getElem?_eq_some_iff.mp he).1
    obtain ⟨⟨k, v⟩, hkv⟩ : ∃ kv, kvs[i]? = some kv := ⟨kvs[i]'(by omega), List.getElem?_eq_getElem _⟩
    obtain ⟨h1, h2⟩ := hp.get? he hkv
    obtain ⟨z, hz⟩ : ∃ z, ks[i]? = some z := ⟨ks[i]'(by omega), List.getElem?_eq_getElem _⟩
    obtain ⟨t, ht⟩ := hk i k z e.key (by rw [List.getElem?_map, hkv]; rfl) hz h1
    rw [ht]
    refine wpAny_pure ⟨rfl, i + 1, ?_, hlt, ?_⟩
    · have := congrArg List.tail hr
      rw [List.tail_cons, List.tail_drop] at this
      exact this
    · rw [List.take_add_one]
      congr 1
      have : (ks.zip (kvs.map (·.2)))[i]? = some (z, v) := by
        rw [List.getElem?_zip_eq_some]
        exact ⟨hz, by rw [List.getElem?_map, hkv]; rfl⟩
      rw [this, h2]
      rfl
  · rintro kw s' ⟨rfl, i, hr, hi, rfl⟩
    have hin : es.toList.length ≤ i := by
      have := congrArg List.length hr
      rw [List.length_nil, List.length_drop] at this
      omega
    rw [List.take_of_length_le (by rw [List.length_zip, List.length_map]; omega)]
    exact wpAny_pure h
end
end Bk
namespace Bk
open PySem PySem.Spec PyProof.Rows L2
section
variable {prog : Program} {w : World} {A : Around} {E : Value → Shared → Prop} {s : Shared} {K : PySem.W.Frag}
theorem callWith_kwD {f : Value} {pos : Pos} {x : Sem Value} {Q : Value → Shared → Prop} (hk : PySem.W.keepIn K f = true)
    (h : wpAny (model prog w) A (mergedKeywords f [(none, x)]) (fun d s1 => wpAny (model prog w) A (keywordsIn f d) (fun kw s2 => K.In s2.heap ∧ wpAny (model prog w) A (call f [] kw) Q E s2) E s1) E s) :
    wpAny (model prog w) A (callWith pos f [] [] [(none, x)]) Q E s := by
  unfold callWith
  refine wpAny_bind (wpAny_holding ?_)
  unfold evalArgs
  dsimp only
  refine wpAny_bind (m := spliced []) (Calls.spliced_nil ?_)
  refine wpAny_bind (wpAny_pure ?_)
  refine wpAny_holding ?_
  rw [if_neg (by show ¬ (false && true) = true; exact Bool.false_ne_true)]
  refine wpAny_bind (thn h fun d s1 h1 => ?_)
  refine wpAny_bind (wpAny_pure ?_)
  refine wpAny_bind (wpAny_holding (thn h1 fun kw s2 ⟨hK, h2⟩ => ?_))
  refine wpAny_pure (wpAny_bind (wpAny_standAt ?_))
  obtain ⟨k, hk', L⟩ := PySem.W.keeps_K (M := model prog w) hk _ hK
  refine wpAny_bind (L.here ?_)
  have tail : ∀ {t : Sem Value}, wpAny (model prog w) A t Q E s2 → wpAny (model prog w) A (t >>= fun r => holding [r] point >>= fun _ => pure r) Q E s2 :=
    fun ht => wpAny_bind (thn ht fun r s3 hr => wpAny_bind (wpAny_holding (wpAny_point (wpAny_pure hr))))
  have marked (mk : Value) : wpAny (model prog w) A (callMarked mk f [] kw) Q E s2 := by
    unfold callMarked
    exact Calls.wpAny_keep h2
  rcases hk' with rfl | rfl | rfl
  · exact tail (marked _)
  · exact tail (wpAny_operate' h2)
  · exact tail (wpAny_operate' h2)
end
end Bk
namespace Bk
open PySem PySem.Spec PyProof.Rows L2
/-- C(**d), d a tracked dict with the texts ks as keys, in order -/
def tMakeKD (C : Addr) (ks : List Str) (sp : Sp) (gV : List V → List V → List V) (E : XK) (te : TE) : TE := fun σ H Q => te σ H fun v H1 => ∃ a kvs, v = .ref a ∧ H1 a = some (.dK kvs) ∧ kvs.map (·.1) = ks.map Sum.inr ∧ ∀ x dx, H1 x = none → H1 dx = none → dx ≠ x →
  sp (gV [.ref x] (kvs.map (·.2))) (upd (upd H1 dx (.own x)) x (.ins C dx [])) (fun v H3 => v = .non ∧ Q (.ref x) H3) E
theorem kv_fst {kvs : List (Key × V)} {vs : List (Key × Value)} (h : KV kvs vs) : vs.map (·.1) = kvs.map (·.1) := by
  induction h with
  | nil => rfl
  | cons r _ ih => rw [List.map_cons, List.map_cons, ih, r.1]
theorem kv_snd {kvs : List (Key × V)} {vs : List (Key × Value)} (h : KV kvs vs) : Vals (kvs.map (·.2)) (vs.map (·.2)) := by
  induction h with
  | nil => exact .nil
  | cons r _ ih => exact .cons r.2 ih
section
variable {X : Cx} {CX : CXT} {k : Nat} {f C : Addr} {fd : FuncData} {ps ks : List Str} {sp : Sp} {E : XK} {x : Str} {p pos kp : Pos} {e : Expr} {te : TE} {g : List Value → List Value → List Value} {gV : List V → List V → List V}
theorem pe_makeKD (M : Mk X.K C f) (F : FnOk X.prog X.w X.K X.mg X.base CX k f fd ps sp) (hr : Room (k + 1) X.A) (hg : Gl X x) (hm : X.mg x = some (.ref C)) (hb : KBn X.K fd ps 1 ks g gV) (hx : Passes CX X E) (he : PE X e te) (hdb : (x == ("__debug__" : Str)) = false := by decide) :
    PE X (.Call (.Name x p) [] [⟨none, e, kp⟩] pos) (tMakeKD C ks sp gV E te) := by
  refine ⟨fun pins s σ H Q I h => ?_⟩
  refine wpAny_Call_Name_kw (ld_glob I hg hm ?_ hdb)
  show wpAny (model X.prog X.w) X.A (callWith pos (.ref C) [] [] [(none, do let v ← eval e X.env; standAt pos; pure v)]) _ _ _
  refine callWith_kwD M.kp (merged_one (knd := mixKind X.prog X.w) ?_)
  have I0 := ClX.pin_new (o := { cls := .type "dict", data := .dict #[] }) (t' := s.toks) I (fun b u q => Heap.get?_push_of_some _ q) (Nat.le_refl _) (Heap.get?_push_size _ rfl) (fun v z => nomatch z)
  refine wpAny_bind (thn (he.run _ _ σ H _ I0 h) fun u s1 ⟨v, H1, I1, r1, a, kvs, ev, ha, hk, q⟩ => wpAny_bind (wpAny_standAt (wpAny_pure ?_)))
  subst ev
  obtain rfl : u = Value.ref a := r1
  obtain ⟨hz, haS, vs, kv, hd⟩ := dk_of I1.hok ha
  have hnd : s.heap.objs.size ≠ a := fun z => by
    have := ClX.pin_un I1
    rw [z, ha] at this
    cases this
  have hlen : kvs.length = vs.length := Paired.length kv
  have hfst := kv_fst kv
  have hstr : ∀ (i : Nat) (k0 : Key) (z : Str) (v0 : Value), (vs.map (·.1))[i]? = some k0 → ks[i]? = some z → (mixKind X.prog X.w).is k0 v0 = true → ∃ t, v0 = .str z t := by
    intro i k0 z v0 h1 h2 h3
    rw [hfst, hk, List.getElem?_map, h2] at h1
    cases h1
    rcases keyIs_shape (show keyIs (.inr z) v0 = true from h3) with ⟨i', t, e', _⟩ | ⟨y, t, e', e2⟩
    · cases e'
    · cases e'
      exact ⟨t, e2⟩
  have hks : vs.length = ks.length := by
    have := congrArg List.length hk
    rw [List.length_map, List.length_map] at this
    omega
  refine ⟨a, vs, rfl, hnd, haS, ?_, hd, ?_, by omega, fun h' hd' sb => ?_⟩
  · exact ⟨_, #[], 0, ClX.pin_at I1, ⟨rfl, rfl, rfl⟩, rfl, fun e he => by simp at he, .nil, List.nodup_nil⟩
  · intro k0 v0 h1 h2
    obtain ⟨i, hi⟩ := List.mem_iff_getElem?.mp h2
    have hi' := (List.getElem?_eq_some_iff.mp hi).1
    rw [List.length_map] at hi'
    obtain ⟨t, ht⟩ := hstr i k0 _ v0 hi (List.getElem?_eq_getElem (by omega)) h1
    exact ⟨_, t, ht⟩
  · obtain ⟨f0, f1, f2, f3, f4, f5⟩ := I.fpOk (H' := H) (Nat.le_refl _) (I.hok.fresh (Nat.le_refl _))
    have I2 : Inv X pins σ H1 { s1 with heap := h' } := (ClX.unpin I1).turned (t' := s1.toks) (fun b o nb eb => (sb.2 b nb).trans eb) (ClX.pin_un I1) f1 f3 f4 f5
    refine keywords_of hd' hks hstr ?_
    exact ⟨I2.kIn, run_makeK (us := []) (vs := []) M F hr hb hx I2 .nil (kv_snd kv) rfl (by rw [List.length_map]; omega) q⟩
end
end Bk
/-! Judgements for states in which a token is out. -/
namespace Tk
open PySem PySem.Spec PyProof.Rows L2
theorem thnT {α : Type} {t : Sem α} {Q R : α → Shared → Prop} {M : Model} {A : Around} {E : Value → Shared → Prop} {s : Shared} (h0 : 1 ≤ s.toks) (h : wpAny M A t Q E s) (hQ : ∀ a s2, 1 ≤ s2.toks → Q a s2 → R a s2) : wpAny M A t R E s :=
  wpAny_mono (PySem.wpAny_toks_of h0 h) (fun a s2 z => hQ a s2 z.1 z.2) fun _ _ z => z.2
/-- a def that may be called once a token is out -/
structure FnT (P : Program) (w : World) (K : PySem.W.Frag) (mg : Str → Option Value) (base : Heap) (CX : CXT) (k : Nat) (f : Addr) (fd : FuncData) (ps : List Str) (sp : Sp) : Prop where
  len : ∀ vs H Q E, sp vs H Q E → vs.length = ps.length
  run : ∀ (A : Around) (outer : List Env) (s : Shared) (H : Hp) (args : Args) (us : List Value) (vs : List V) (Q : VK) (E : XK), 1 ≤ s.toks → Room k A → Env0 P w K mg base A outer s H → BindsTo s fd args (ps.zip us) → Vals vs us → sp vs H Q E →
    codeAny (model P w) A (.call (.ref f) args) (CR CX outer P w H s Q E) s
theorem FnT.of {P : Program} {w : World} {K : PySem.W.Frag} {mg : Str → Option Value} {base : Heap} {CX : CXT} {k : Nat} {f : Addr} {fd : FuncData} {ps : List Str} {sp : Sp} (F : FnOk P w K mg base CX k f fd ps sp) : FnT P w K mg base CX k f fd ps sp :=
  ⟨F.len, fun A outer s H args us vs Q E _ => F.run A outer s H args us vs Q E⟩
section
variable {P : Program} {w : World} {K : PySem.W.Frag} {mg : Str → Option Value} {base : Heap}
/-- the rule for such a def, by its body -/
theorem okT {CX : CXT} {x qual : Str} {st : Stmt} {f : Addr} {fd : FuncData} {N ps : List Str} {k : Nat} {sp : Sp} (F : Fun K x qual st f fd) (S : FnScope N ps (defScope st)) (len : ∀ vs H Q E, sp vs H Q E → vs.length = ps.length)
    (hbody : ∀ (cdv : Value) (A : Around) (outer : List Env) (s : Shared) (H : Hp) (vs : List V) (Q : VK) (E : XK), Room k (A.deeper (envOfC qual (defScope st) s.heap.objs.size f cdv)) → sp vs H Q E →
      ∃ t, PSsT (cxOf CX P w K mg base N qual (defScope st) f cdv A outer s H E) (defBody st) t ∧ t { nx := fun _ H2 => Q .non H2, rt := Q } (start N vs) H) : FnT P w K mg base CX (k + 1) f fd ps sp := by
  obtain ⟨oc, od, kV, doc, pm, an, cdv, ct, osl, rfl, lk, hcd⟩ := F.ex
  refine ⟨len, fun A outer s H args us vs Q E h0 hr e0 hb r hsp => ?_⟩
  have keep0 : ∀ b o, base.get? b = some o → s.heap.get? b = some o := fun b o e => (e0.bs b o e).1
  have KX : K.In s.heap := e0.mod.kin.keeps keep0
  have lim : s.heap.NoLimit := e0.mod.nolimit.keeps keep0
  refine codeAny_call_function hr.depth (KX _ _ lk) rfl S.co S.gen rfl (PySem.W.codeRec_of KX hcd) (hb _ _ _ _ (PySem.wpAny_with_toks h0 ?_))
  refine wpAny_newFunctionEnv_cells S.kind (fun ⟨n, v⟩ hy => (S.par n (List.of_mem_zip hy).1).elim .inl fun q => .inr ⟨q, PySem.W.cellsFrom_some _ _ _ (.inl q)⟩) fun env he s1 x h1 => ?_
  subst he
  obtain ⟨t, ht, hq⟩ := hbody cdv A outer s H vs Q E (hr.deeper _) hsp
  have I : Inv (cxOf CX P w K mg base N qual (defScope st) f cdv A outer s H E) [] (start N vs) H s1 := inv_start S hr.hd e0 (len _ _ _ _ hsp) r x
  refine ⟨lim.keeps x.toInCall.keep, codeAny_func (wpAny_mono (ht [] s1 (start N vs) H _ h1 I hq) (fun fl s2 hs => ?_) fun e s2 hs => hs)⟩
  have fin : ∀ {σ2 : L2.St} {H2 : Hp} {v : V} {u : Value}, Inv (cxOf CX P w K mg base N qual (defScope st) f cdv A outer s H E) [] σ2 H2 s2 → RelV v u → Q v H2 → CE outer P w H s Q u s2 :=
    fun {_ H2 v _} J rv q => ⟨v, H2, J.os, J.bare, J.base, J.hok, rv, q⟩
  match fl, hs with
  | .ret u, hs => obtain ⟨v, σ2, H2, J, rv, q⟩ := hs; exact fin J rv q
  | .next, hs => obtain ⟨σ2, H2, J, q⟩ := hs; exact fin (v := V.non) (u := Value.none) J rfl q
  | .brk, hs => exact hs.elim fun _ h => h.elim fun _ h => h.2.elim
  | .cont, hs => exact hs.elim fun _ h => h.elim fun _ h => h.2.elim
end
section
variable {X : Cx} {CX : CXT} {k : Nat} {f C : Addr} {fd : FuncData} {ps : List Str} {sp : Sp} {E : XK}
theorem PET.of {e : Expr} {t : TE} (h : PE X e t) : PET X e t := fun pins s σ H Q _ I q => h.run pins s σ H Q I q
theorem PAT.of {es : List Expr} {t : TA} (h : PA X es t) : PAT X es t := fun pos pins s σ H Q _ I q => h.run pos pins s σ H Q I q
theorem run_fnT {B : Around} {pins : List (Addr × Obj)} {σ : L2.St} {H : Hp} {s : Shared} {Q : VK} {us : List Value} {vs : List V} (F : FnT X.prog X.w X.K X.mg X.base CX k f fd ps sp) (h0 : 1 ≤ s.toks) (hr : Room k B) (fr : B.frames = X.A.frames) (hb : Binds X.K fd ps []) (hx : Passes CX X E)
    (I : Inv X pins σ H s) (r : Vals vs us) (h : sp vs H Q E) : wpAny (model X.prog X.w) B (call (.ref f) us) (EP X pins σ Q) X.xe s := by
  have e := I.env0
  have e1 : Env0 X.prog X.w X.K X.mg X.base B X.stack s H := { e with frames := fr.trans e.frames }
  have hl : us.length = ps.length := r.length.symm.trans (F.len _ _ _ _ h)
  have b1 := hb s us I.kIn ((congrArg List.length (List.append_nil us)).trans hl)
  rw [List.append_nil] at b1
  refine wpAny_call (codeAny_mono (F.run B X.stack s H ⟨us, []⟩ us vs Q E h0 hr e1 b1 r h) fun res s2 q => ?_)
  match res, q with
  | .error er, q => exact hx pins σ H s er s2 I q
  | .ok (.ret _), q => exact I.after q
/-- f(e, ..) -/
theorem pet_call {x : Str} {p pos : Pos} {e : Expr} {es : List Expr} {t : TA} (F : FnT X.prog X.w X.K X.mg X.base CX k f fd ps sp) (hr : Room k X.A) (hg : Gl X x) (hm : X.mg x = some (.ref f)) (hk : PySem.W.keepIn X.K (.ref f) = true) (hb : Binds X.K fd ps []) (hx : Passes CX X E)
    (ha : PAT X (e :: es) t) (hdb : (x == ("__debug__" : Str)) = false := by decide) (he : starEach (e :: es) X.env = (false, eval e X.env) :: starEach es X.env := by rfl) (hpl : (backTo pos (starEach es X.env)).any (·.1) = false := by rfl) :
    PET X (.Call (.Name x p) (e :: es) [] pos) (tCall sp [] E t) := by
  intro pins s σ H Q h0 I h
  refine wpAny_Call_Name_kw (ld_glob I hg hm (PySem.W.callWith_K (h₀ := X.base) I.ok.mod.kin hk (thnT h0 (ha pos pins s σ H _ h0 I h) fun us s1 h1 z => ?_) he hpl) hdb)
  obtain ⟨vs, H1, I1, r, q⟩ := z
  rw [List.append_nil] at q
  exact ⟨I1.kIn, run_fnT F h1 hr rfl hb hx I1 r q⟩
/-- a built-in -/
theorem pet_callB {x : Str} {id : String} {r : List V → Hp → VK → Prop} {p pos : Pos} {e : Expr} {es : List Expr} {t : TA} (hc : CallR X (.builtin id) r) (hg : Gl X x) (hm : X.mg x = none) (hv : bootBuiltins x = some (.builtin id)) (ha : PAT X (e :: es) t) (hn : x ≠ "__name__" := by decide)
    (hdb : (x == ("__debug__" : Str)) = false := by decide) (he : starEach (e :: es) X.env = (false, eval e X.env) :: starEach es X.env := by rfl) (hpl : (backTo pos (starEach es X.env)).any (·.1) = false := by rfl) : PET X (.Call (.Name x p) (e :: es) [] pos) (tCB r t) := by
  intro pins s σ H Q h0 I h
  refine wpAny_Call_Name_kw (ld_blt I hg hm hv (PyProof.Rows.callWith_builtin1 (thn (ha pos pins s σ H _ h0 I h) fun us s1 z => ?_) he hpl) hn hdb)
  obtain ⟨vs, H1, I1, rr, q⟩ := z
  exact hc pins s1 σ H1 vs us Q I1 rr q
theorem pet_callTy {x : Str} {T : String} {r : List V → Hp → VK → Prop} {p pos : Pos} {e : Expr} {es : List Expr} {t : TA} (hc : CallR X (.type T) r) (hg : Gl X x) (hm : X.mg x = none) (hv : bootBuiltins x = some (.type T)) (ha : PAT X (e :: es) t) (hn : x ≠ "__name__" := by decide)
    (hdb : (x == ("__debug__" : Str)) = false := by decide) (he : starEach (e :: es) X.env = (false, eval e X.env) :: starEach es X.env := by rfl) (hpl : (backTo pos (starEach es X.env)).any (·.1) = false := by rfl) : PET X (.Call (.Name x p) (e :: es) [] pos) (tCB r t) := by
  intro pins s σ H Q h0 I h
  refine wpAny_Call_Name_kw (ld_blt I hg hm hv (PyProof.Rows.callWith_type1 (thn (ha pos pins s σ H _ h0 I h) fun us s1 z => ?_) he hpl) hn hdb)
  obtain ⟨vs, H1, I1, rr, q⟩ := z
  exact hc pins s1 σ H1 vs us Q I1 rr q
theorem psst_one {st : Stmt} {t : TS} (h : PST X st t) : PSsT X [st] t := by
  intro pins s σ H D h0 I q
  exact psst_cons (u := tNext) h (PSsT.of pss_nil) pins s σ H D h0 I q
theorem pst_asg {tg e : Expr} {te : TE} {g : TG} {pos : Pos} (he : PET X e te) (hg : PG X tg g) (hs : swapsWithSole [tg] e pos.line X.env = pure false := by rfl) (hw : swappedStores [tg] e X.env = pure none := by rfl)
    (h1 : (assignEach [tg] X.env).map (·.2) = [assign tg X.env] := by rfl) : PST X (.Assign [tg] e pos) (tAsg te g) := by
  intro pins s σ H D h0 I h
  refine wpAny_Assign_stores (thn (he pins s σ H _ h0 I h) fun v s1 z => ?_) hs hw
  obtain ⟨x, H1, I1, r1, q1⟩ := z
  rw [h1]
  exact thn (hg.run pins s1 σ H1 x v _ I1 r1 q1) fun _ s2 q => q
theorem pst_ret {e : Expr} {te : TE} {pos : Pos} (he : PET X e te) : PST X (.Return (some e) pos) (tRet te) := by
  intro pins s σ H D h0 I h
  refine wpAny_Return_some (thn (he pins s σ H _ h0 I h) fun v s1 z => ?_)
  obtain ⟨x, H1, I1, r1, q1⟩ := z
  exact ⟨x, σ, H1, I1, r1, q1⟩
/-- a test -/
def PTT (X : Cx) (e : Expr) (t : TT) : Prop :=
  ∀ (pins : List (Addr × Obj)) (s : Shared) (σ : L2.St) (H : Hp) (Q : Bool → Hp → Prop), 1 ≤ s.toks → Inv X pins σ H s → t σ H Q → wpAny (model X.prog X.w) X.A (isTrue e X.env (eval e X.env)) (TP X pins σ Q) X.xe s
theorem PTT.of {e : Expr} {t : TT} (h : PT X e t) : PTT X e t := fun pins s σ H Q _ I q => h.run pins s σ H Q I q
theorem pst_if {c : Expr} {a b : List Stmt} {tc : TT} {t u : TS} {pos : Pos} (hc : PTT X c tc) (ha : PSsT X a t) (hb : PSsT X b u) : PST X (.If c a b pos) (tIfS tc t u) := by
  intro pins s σ H D h0 I h
  refine wpAny_If (thnT h0 (hc pins s σ H _ h0 I h) fun d s1 h1 z => ?_)
  obtain ⟨H1, I1, q1⟩ := z
  cases d with
  | true => exact ha pins s1 σ H1 D h1 I1 q1
  | false => exact hb pins s1 σ H1 D h1 I1 q1
/-- a comparison -/
theorem pet_cmp {op : CmpOp} {r : R2} {a b : Expr} {ta tb : TE} {pos : Pos} (ho : OpR X (compareOp op) r) (ha : PET X a ta) (hb : PET X b tb) (hm : behindInMarks op b = false) : PET X (.Compare a [op] [b] pos) (tOp r ta tb) := by
  intro pins s σ H Q h0 I h
  refine wpAny_Compare1 (thnT h0 (ha pins s σ H _ h0 I h) fun v s1 h1 z => ?_) hm
  obtain ⟨x, H1, I1, r1, q1⟩ := z
  refine thn (hb pins s1 σ H1 _ h1 I1 q1) fun u s2 z2 => ?_
  obtain ⟨y, H2, I2, r2, q2⟩ := z2
  exact ho pins s2 σ H2 x y v u Q I2 r1 r2 q2
theorem ptt_cmp {op : CmpOp} {r : R2} {a b : Expr} {ta tb : TE} {pos : Pos} (ho : OpR X (compareOp op) r) (ha : PET X a ta) (hb : PET X b tb) (hm : behindInMarks op b = false) : PTT X (.Compare a [op] [b] pos) (tTest (tOp r ta tb)) := by
  intro pins s σ H Q h0 I h
  refine wpAny_isTrue_Compare1 (thnT h0 (ha pins s σ H _ h0 I h) fun v s1 h1 z => ?_) hm
  obtain ⟨x, H1, I1, r1, q1⟩ := z
  refine thn (hb pins s1 σ H1 _ h1 I1 q1) fun u s2 z2 => ?_
  obtain ⟨y, H2, I2, r2, q2⟩ := z2
  refine thn (ho pins s2 σ H2 x y v u _ I2 r1 r2 q2) fun c s3 z3 => ?_
  obtain ⟨d, H3, I3, r3, k, e, q3⟩ := z3
  subst e
  cases r3
  exact wpAny_truthy_bool ⟨H3, I3, q3⟩
theorem ptt_not {a : Expr} {t : TT} {pos : Pos} (h : PTT X a t) : PTT X (.UnaryOp .Not a pos) (tNot t) := fun pins s σ H Q h0 I q => isTrue_not (h pins s σ H (fun c H1 => Q (!c) H1) h0 I q)
theorem ptt_val {e : Expr} {t : TE} (h : PET X e t) (he : ∀ whole, isTrue e X.env whole = (do let v ← whole; standAt e.pos; holding [v] (truthy v)) := by intro _; rfl) : PTT X e (tB t) := by
  intro pins s σ H Q h0 I q
  refine isTrue_plain (thn (h pins s σ H _ h0 I q) fun v s1 z => ?_) (he _)
  obtain ⟨x, H1, I1, r1, d, rfl, q1⟩ := z
  cases r1
  exact wpAny_truthy_bool ⟨H1, I1, q1⟩
end
end Tk
/-! Defs that are called where nothing is under way (no guard stands on the stack). -/
namespace Tk
open PySem PySem.Spec PyProof.Rows L2
/-- a def promised for calls with no guard, m tokens being out -/
structure FnG (m : Nat) (P : Program) (w : World) (K : PySem.W.Frag) (mg : Str → Option Value) (base : Heap) (CX : CXT) (k : Nat) (f : Addr) (fd : FuncData) (ps : List Str) (sp : Sp) : Prop where
  len : ∀ vs H Q E, sp vs H Q E → vs.length = ps.length
  run : ∀ (A : Around) (outer : List Env) (s : Shared) (H : Hp) (args : Args) (us : List Value) (vs : List V) (Q : VK) (E : XK), A.guards = some [] → m ≤ s.toks → Room k A → Env0 P w K mg base A outer s H → BindsTo s fd args (ps.zip us) → Vals vs us → sp vs H Q E →
    codeAny (model P w) A (.call (.ref f) args) (CR CX outer P w H s Q E) s
theorem with_toks {α : Type} {m : Nat} {t : Sem α} {Q : α → Shared → Prop} {E : Value → Shared → Prop} {M : Model} {A : Around} {s : Shared} (h0 : m ≤ s.toks) (h : wpAny M A t (fun a s2 => m ≤ s2.toks → Q a s2) E s) : wpAny M A t Q E s :=
  wpAny_mono (PySem.wpAny_toks h) (fun _ s2 z => z.2 (Nat.le_trans h0 z.1)) fun _ _ z => z.2
section
variable {P : Program} {w : World} {K : PySem.W.Frag} {mg : Str → Option Value} {base : Heap} {m : Nat}
theorem okG {CX : CXT} {x qual : Str} {st : Stmt} {f : Addr} {fd : FuncData} {N ps : List Str} {k : Nat} {sp : Sp} (F : Fun K x qual st f fd) (S : FnScope N ps (defScope st)) (len : ∀ vs H Q E, sp vs H Q E → vs.length = ps.length)
    (hbody : ∀ (cdv : Value) (A : Around) (outer : List Env) (s : Shared) (H : Hp) (vs : List V) (Q : VK) (E : XK), A.guards = some [] → Room k (A.deeper (envOfC qual (defScope st) s.heap.objs.size f cdv)) → sp vs H Q E →
      ∃ t : TS, (∀ (pins : List (Addr × Obj)) (z : Shared) (σ : L2.St) (G : Hp) (D : Ends), m ≤ z.toks → Inv (cxOf CX P w K mg base N qual (defScope st) f cdv A outer s H E) pins σ G z → t D σ G → wpAny (model P w) (cxOf CX P w K mg base N qual (defScope st) f cdv A outer s H E).A (execs (defBody st) (cxOf CX P w K mg base N qual (defScope st) f cdv A outer s H E).env) (SP (cxOf CX P w K mg base N qual (defScope st) f cdv A outer s H E) pins D) (cxOf CX P w K mg base N qual (defScope st) f cdv A outer s H E).xe z) ∧
        t { nx := fun _ H2 => Q .non H2, rt := Q } (start N vs) H) : FnG m P w K mg base CX (k + 1) f fd ps sp := by
  obtain ⟨oc, od, kV, doc, pm, an, cdv, ct, osl, rfl, lk, hcd⟩ := F.ex
  refine ⟨len, fun A outer s H args us vs Q E gs h0 hr e0 hb r hsp => ?_⟩
  have old : ∀ b o, base.get? b = some o → s.heap.get? b = some o := fun b o e => (e0.bs b o e).1
  have KX : K.In s.heap := e0.mod.kin.keeps old
  refine codeAny_call_function hr.depth (KX _ _ lk) rfl S.co S.gen rfl (PySem.W.codeRec_of KX hcd) (hb _ _ _ _ (with_toks h0 (wpAny_newFunctionEnv_cells S.kind (fun ⟨n, v⟩ hy => (S.par n (List.of_mem_zip hy).1).elim .inl fun q => .inr ⟨q, PySem.W.cellsFrom_some _ _ _ (.inl q)⟩) fun env he s1 x h1 => ?_)))
  subst he
  obtain ⟨t, ht, hq⟩ := hbody cdv A outer s H vs Q E gs (hr.deeper _) hsp
  have I : Inv (cxOf CX P w K mg base N qual (defScope st) f cdv A outer s H E) [] (start N vs) H s1 := inv_start S hr.hd e0 (len _ _ _ _ hsp) r x
  refine ⟨(e0.mod.nolimit.keeps old).keeps x.toInCall.keep, codeAny_func (wpAny_mono (ht [] s1 (start N vs) H _ h1 I hq) (fun fl s2 hs => ?_) fun e s2 hs => hs)⟩
  have fin : ∀ {τ : L2.St} {G : Hp} {v : V} {u : Value}, Inv (cxOf CX P w K mg base N qual (defScope st) f cdv A outer s H E) [] τ G s2 → RelV v u → Q v G → CE outer P w H s Q u s2 :=
    fun {_ G v _} J rv q => ⟨v, G, J.os, J.bare, J.base, J.hok, rv, q⟩
  match fl, hs with
  | .ret u, hs => obtain ⟨v, _, _, J, rv, q⟩ := hs; exact fin J rv q
  | .next, hs => obtain ⟨_, _, J, q⟩ := hs; exact fin (v := V.non) (u := Value.none) J rfl q
  | .brk, hs => exact hs.elim fun _ h => h.elim fun _ h => h.2.elim
  | .cont, hs => exact hs.elim fun _ h => h.elim fun _ h => h.2.elim
end
section
variable {X : Cx} {CX : CXT} {k m : Nat} {f : Addr} {fd : FuncData} {ps : List Str} {sp : Sp} {E : XK}
/-- f(e, ..), where no guard stands -/
theorem pet_callG {x : Str} {p pos : Pos} {e : Expr} {es : List Expr} {t : TA} (gs : X.A.guards = some []) (hm1 : m ≤ 1) (F : FnG m X.prog X.w X.K X.mg X.base CX k f fd ps sp) (hr : Room k X.A) (hg : Gl X x) (hm : X.mg x = some (.ref f)) (hk : PySem.W.keepIn X.K (.ref f) = true) (hb : Binds X.K fd ps []) (hx : Passes CX X E)
    (ha : PAT X (e :: es) t) (hdb : (x == ("__debug__" : Str)) = false := by decide) (he : starEach (e :: es) X.env = (false, eval e X.env) :: starEach es X.env := by rfl) (hpl : (backTo pos (starEach es X.env)).any (·.1) = false := by rfl) :
    PET X (.Call (.Name x p) (e :: es) [] pos) (tCall sp [] E t) := by
  intro pins s σ H Q h0 I h
  refine wpAny_Call_Name_kw (ld_glob I hg hm (PySem.W.callWith_K (h₀ := X.base) I.ok.mod.kin hk (thnT h0 (ha pos pins s σ H _ h0 I h) fun us s1 h1 z => ?_) he hpl) hdb)
  obtain ⟨vs, H1, I1, r, q⟩ := z
  rw [List.append_nil] at q
  refine ⟨I1.kIn, ?_⟩
  have hl : us.length = ps.length := r.length.symm.trans (F.len _ _ _ _ q)
  have b1 := hb s1 us I1.kIn ((congrArg List.length (List.append_nil us)).trans hl)
  rw [List.append_nil] at b1
  refine wpAny_call (codeAny_mono (F.run X.A X.stack s1 H1 ⟨us, []⟩ us vs Q E gs (Nat.le_trans hm1 h1) hr I1.env0 b1 r q) fun res s2 z => ?_)
  match res, z with
  | .error er, z => exact hx pins σ H1 s1 er s2 I1 z
  | .ok (.ret _), z => exact I1.after z
end
end Tk
/-! The law's call at the top: no guard stands there. -/
namespace Tk
open PySem PySem.Spec PyProof.Rows L2
section
variable {P : Program} {w : World} {K : PySem.W.Frag} {mg mb : Str → Option Value} {CX : CXT} {k : Nat} {fa a : Addr} {fd : FuncData} {x : Str} {sp : Sp} {s : Shared} {vs : List Value} {ns : List Int}
/-- what the top gives for a heap H that tracks the script alone, or nothing -/
structure Top (P : Program) (w : World) (K : PySem.W.Frag) (mg : Str → Option Value) (s : Shared) (a : Addr) (H : Hp) : Prop where
  only : Only H
  hok : HOk P w H s.heap
  at_ : ∀ b u, H b = some u → b = a ∧ K.lookup a = none
theorem top_env (T : Top P w K mg s a H) (KX : K.In s.heap) (hns : s.heap.Ns mainGlobals mg) (hb : s.heap.Ns builtinsNs mb) (hbb : ∀ x : Str, x ≠ "__name__" → mb x = bootBuiltins x) (hlim : s.heap.NoLimit) (hg : s.gens = #[])
    (ha : s.heap.get? a = some { cls := .type "list", data := .seq vs.toArray }) : Env0 P w K mg (hidT s.heap H) callerA [] s H ∧ K.In (hidT s.heap H) ∧ (hidT s.heap H).Ns mainGlobals mg := by
  have free : ∀ b o, s.heap.get? b = some o → (∀ (es : Array DictEntry) (ep : Nat), o.data = .dict es ep → H b = none) := fun b o e es ep d => by
    cases q : H b with
    | none => rfl
    | some u =>
      rw [(T.at_ b u q).1, ha] at e
      cases e
      cases (show Data.seq vs.toArray _ = Data.dict es ep from d)
  have names : ∀ {b : Addr} {m : Str → Option Value}, s.heap.Ns b m → (hidT s.heap H).Ns b m := by
    rintro b m ⟨o, es, ep, e, d, r⟩
    exact ⟨o, es, ep, hidT_get e (free b o e es ep d), d, r⟩
  have kin : K.In (hidT s.heap H) := fun b o e => hidT_get (KX b o e) (by
    cases q : H b with
    | none => rfl
    | some u =>
      obtain ⟨rfl, hk⟩ := T.at_ b u q
      rw [hk] at e
      cases e)
  obtain ⟨mc, l1, l2⟩ := hlim
  exact ⟨⟨rfl, ⟨kin, names hns, ⟨mb, names hb, hbb⟩, ⟨mc, names l1, l2⟩⟩, fun b o e => of_hidT e, Nat.le_of_eq (hidT_size _ _), trivial, fun b hb => (nomatch hb), T.hok, .of_eq hg⟩, kin, names hns⟩
theorem top_call {H : Hp} (T : Top P w K mg s a H) (hS : SqL K H a (ns.map V.int)) (KX : K.In s.heap) (hns : s.heap.Ns mainGlobals mg) (hb : s.heap.Ns builtinsNs mb) (hbb : ∀ x : Str, x ≠ "__name__" → mb x = bootBuiltins x) (hlim : s.heap.NoLimit) (hg : s.gens = #[])
    (ha : s.heap.get? a = some { cls := .type "list", data := .seq vs.toArray }) (hr : Room k callerA) (F : ∀ base : Heap, K.In base → base.Ns mainGlobals mg → FnG 0 P w K mg base CX k fa fd [x] sp) (hbind : ∀ (s : Shared) (u : Value), BindsTo s fd ⟨[u], []⟩ [(x, u)])
    (hsp : sp [.ref a] H (fun v _ => v = .bl true) fun _ _ _ => False) (hCX : ∀ H e s', CX [] H s (fun _ _ _ => False) e s' → False) :
    codeAny (model P w) callerA (.call (.ref fa) ⟨[.ref a], []⟩) (fun r s' => r = .ok (.ret (.bool true)) ∧ OldK s.heap s'.heap ∧ s'.os = s.os ∧ AllBare s'.gens) s := by
  obtain ⟨e0, kb, nb⟩ := top_env T KX hns hb hbb hlim hg ha
  refine codeAny_mono ((F _ kb nb).run callerA [] s H ⟨[.ref a], []⟩ [.ref a] [.ref a] _ _ rfl (Nat.zero_le _) hr e0 (hbind s (.ref a)) (.cons rfl .nil) hsp) fun r t h => ?_
  match r, h with
  | .error e, h => exact (hCX H e t h).elim
  | .ok (.ret u), ⟨v, G, os, bare, un, hokG, ru, q⟩ =>
    cases (show v = .bl true from q)
    cases (show u = Value.bool true from ru)
    refine ⟨rfl, OldK.of_keep fun b o e => ?_, os, bare⟩
    rcases T.only b with z | ⟨ob, xs, z⟩
    · exact un.keep b o e z (fun hm => nomatch hm) (by simp)
    · obtain ⟨e1, _⟩ := T.hok b _ z
      obtain ⟨e2, _⟩ := hokG b _ (un.frzs b ob _ z)
      exact e2.trans (e1.symm.trans e)
theorem law_callG (KX : K.In s.heap) (hns : s.heap.Ns mainGlobals mg) (hb : s.heap.Ns builtinsNs mb) (hbb : ∀ x : Str, x ≠ "__name__" → mb x = bootBuiltins x) (hlim : s.heap.NoLimit) (hg : s.gens = #[])
    (ha : s.heap.get? a = some { cls := .type "list", data := .seq vs.toArray }) (hi : IntsAre vs ns) (hl : ns.length ≤ sizeLine) (hr : Room k callerA) (F : ∀ base : Heap, K.In base → base.Ns mainGlobals mg → FnG 0 P w K mg base CX k fa fd [x] sp) (hbind : ∀ (s : Shared) (u : Value), BindsTo s fd ⟨[u], []⟩ [(x, u)])
    (hsp : ∀ H : Hp, SqL K H a (ns.map V.int) → sp [.ref a] H (fun v _ => v = .bl true) fun _ _ _ => False) (hCX : ∀ H e s', CX [] H s (fun _ _ _ => False) e s' → False) :
    codeAny (model P w) callerA (.call (.ref fa) ⟨[.ref a], []⟩) (fun r s' => r = .ok (.ret (.bool true)) ∧ OldK s.heap s'.heap ∧ s'.os = s.os ∧ AllBare s'.gens) s := by
  have rv := vals_ints hi
  by_cases hk : K.lookup a = none
  · have Hs : ∀ b u, (fun b => if b = a then some (HO.frz { cls := .type "list", data := .seq vs.toArray } (.lst (ns.map V.int))) else none : Hp) b = some u → b = a ∧ u = HO.frz { cls := .type "list", data := .seq vs.toArray } (.lst (ns.map V.int)) := fun b u e => by
      by_cases c : b = a
      · exact ⟨c, (Option.some.inj ((if_pos c).symm.trans e)).symm⟩
      · cases (if_neg c).symm.trans e
    have hS : SqL K (fun b => if b = a then some (HO.frz { cls := .type "list", data := .seq vs.toArray } (.lst (ns.map V.int))) else none) a (ns.map V.int) := .inl (.inr ⟨_, if_pos rfl⟩)
    refine top_call ⟨fun b => ?_, fun b u e => ?_, fun b u e => ⟨(Hs b u e).1, hk⟩⟩ hS KX hns hb hbb hlim hg ha hr F hbind (hsp _ hS) hCX
    · by_cases c : b = a
      · exact .inr ⟨_, _, if_pos c⟩
      · exact .inl (if_neg c)
    · obtain ⟨rfl, rfl⟩ := Hs b u e
      exact ⟨ha, by rw [List.length_map]; exact hl, vs, _, rv, ha⟩
  · obtain ⟨o, ho⟩ := Option.ne_none_iff_exists'.mp hk
    cases ha.symm.trans (KX a o ho)
    have hS : SqL K (fun _ => none) a (ns.map V.int) := .inr ⟨_, vs.toArray, _, ho, rfl, rfl, rfl, by rw [List.size_toArray, hi.length]; exact hl, by simpa using rv⟩
    exact top_call (H := fun _ => none) ⟨fun _ => .inl rfl, fun b u e => (nomatch e), fun b u e => (nomatch e)⟩ hS KX hns hb hbb hlim hg ha hr F hbind (hsp _ hS) hCX
end
/-- the goal that is left of the head, by such a promise of the law -/
theorem walkG {l : PySem.W.OpenLaw} {n k : Nat} {q : Program} {loose : List Str} {XP : (Str → Option Value) → Heap → Prop} {YP : World → Heap → Prop} {d : DefRec} {K : Params → PySem.W.Frag} {CX : World → CXT} {sp : World → Sp} {x : Str}
    (hn : l.most = some n) (hn2 : n ≤ sizeLine) (hdf : d.params.defaults = []) (hr : Room k callerA) (hY : ∀ (w : World) (h : Heap), YP w h → (K w.params).In h)
    (F : ∀ (w : World) (mg : Str → Option Value) (fa : Addr) (h : Heap), (K w.params).In h → h.Ns mainGlobals mg → mg d.name = some (.ref fa) →
      ∃ fd : FuncData, (∀ (s : Shared) (u : Value), BindsTo s fd ⟨[u], []⟩ [(x, u)]) ∧ ∀ base : Heap, (K w.params).In base → base.Ns mainGlobals mg → FnG 0 l.prog w (K w.params) mg base (CX w) k fa fd [x] (sp w))
    (hsp : ∀ (w : World) (H : Hp) (a : Addr) (ns : List Int), ns.length ≤ n → SqL (K w.params) H a (ns.map V.int) → sp w [.ref a] H (fun v _ => v = .bl true) fun _ _ _ => False)
    (hCX : ∀ (w : World) (H : Hp) (s : Shared) (e : Value) (s' : Shared), CX w [] H s (fun _ _ _ => False) e s' → False) : PySem.W.WalkO q loose XP YP l.row.toRowW d [] (fun f vs => PySem.call f vs) := by
  refine Att.attach_call hn hdf fun w _ s1 mg mb fa _ _ _ _ a _ ns G Y _ _ _ hmg ha hi hlen hg => ?_
  obtain ⟨fd, hbind, hF⟩ := F w mg fa _ (hY w _ Y) G.T.g hmg
  exact law_callG (hY w _ Y) G.T.g G.T.b G.T.builtins G.T.nolimit hg ha hi (Nat.le_trans hlen hn2) hr hF hbind (fun H hS => hsp w H a ns hlen hS) fun H e s' => hCX w H s1 e s'
end Tk
/-! repr of plain data and of flat dicts, where nothing is under way. -/
namespace Tk
open PySem PySem.Spec PyProof.Rows L2
def flD : V → PyData
  | .str x => .str x
  | .int i => .int i
  | .bl b => .bool b
  | _ => .none
def flB (v : V) : Prop := v = .non ∨ ∃ x, v = .str x
def keyD : Key → PyData
  | .inl i => .int i
  | .inr x => .str x
/-- the data that is told of v -/
def Rp (K : PySem.W.Frag) (H : Hp) (v : V) (d : PyData) : Prop := (Dp K H v d ∧ d.hasDict = false) ∨ ∃ a kvs, v = .ref a ∧ H a = some (.dK kvs) ∧ (∀ e ∈ kvs, flB e.2) ∧ d = .dict (kvs.map fun e => (keyD e.1, flD e.2))
section
variable {X : Cx} {pins : List (Addr × Obj)} {σ : L2.St} {H : Hp} {s : Shared} {A : Around} {E : Value → Shared → Prop}
theorem flat_reads {h : Heap} : ∀ {xs : List V} {us : List Value}, Vals xs us → (∀ x ∈ xs, flB x) → ReadsAll h us (xs.map flD) []
  | _, _, .nil, _ => .nil
  | x :: xs, u :: us, .cons r rs, hf => by
    have h1 : Reads h u (flD x) [] := by
      rcases hf x List.mem_cons_self with rfl | ⟨z, rfl⟩
      · cases (show u = Value.none from r)
        exact .none
      · obtain ⟨t, e⟩ := (show ∃ t, u = Value.str z t from r)
        cases e
        exact .str z t
    exact .cons (bs := []) h1 (flat_reads rs fun y hy => hf y (List.mem_cons_of_mem _ hy))
theorem key_reads {P : Program} {w : World} {h : Heap} : ∀ {es : List DictEntry} {kvs : List (Key × V)} {vs : List (Key × Value)}, Pairs (mixKind P w) es vs → KV kvs vs → (∀ e ∈ kvs, flB e.2) → ReadsAll h (es.map (·.key)) ((kvs.map fun e => (keyD e.1, flD e.2)).map (·.1)) [] ∧ ReadsAll h (es.map (·.val)) ((kvs.map fun e => (keyD e.1, flD e.2)).map (·.2)) []
  | _, _, _, .nil, .nil, _ => ⟨.nil, .nil⟩
  | e :: es, (k, v) :: kvs, (k2, u) :: vs, .cons hk hv hp, .cons r rs, hf => by
    obtain ⟨h1, h2⟩ := key_reads (h := h) hp rs fun y hy => hf y (List.mem_cons_of_mem _ hy)
    obtain ⟨rk, ru⟩ := r
    have rk2 : k = k2 := rk
    subst rk2
    have hv2 : e.val = u := hv
    have hk2 : keyIs k e.key = true := hk
    refine ⟨.cons (bs := []) (as := []) ?_ h1, .cons (bs := []) (as := []) ?_ h2⟩
    · show Reads h e.key (keyD k) []
      rcases keyIs_shape hk2 with ⟨i, t, rfl, ek⟩ | ⟨x, t, rfl, ek⟩
      · rw [ek]
        exact .int i t
      · rw [ek]
        exact .str x t
    · show Reads h e.val (flD v) []
      rw [hv2]
      rcases hf (k, v) List.mem_cons_self with hv3 | ⟨z, hv3⟩
      · cases (show v = .non from hv3)
        cases (show u = Value.none from ru)
        exact .none
      · cases (show v = .str z from hv3)
        obtain ⟨t, e2⟩ := (show ∃ t, u = Value.str z t from ru)
        cases e2
        exact .str z t
/-- repr(x) -/
theorem repr_ok {v : V} {u : Value} {d : PyData} {Q : Value → Shared → Prop} (I : Inv X pins σ H s) (hg : A.guards = some []) (hu : A.units + 100 < cLine) (r : RelV v u) (h : Rp X.K H v d) (hv : (∃ a, v = .ref a) ∨ flB v) (hs : d.showable = true) (hd : d.depth ≤ 64) (hz : d.shown.length ≤ sizeLine)
    (q : ∀ t s', Inv X pins σ H s' → Q (.str d.shown t) s') : wpAny (model X.prog X.w) A (call (.builtin "repr") [u]) Q E s := by
  have fin : ∀ {as : List Addr} {a : Addr}, u = .ref a → Reads s.heap u d as → (d.hasDict = true → sysModules ∉ as) → wpAny (model X.prog X.w) A (call (.builtin "repr") [u]) Q E s := fun {as a} eu rd hsm => by
    subst eu
    exact repr_of_reads' rd hs hsm hg (by omega) (fun _ _ e => e) (fun h' t tk k => q t _ (I.kept (t' := tk) k)) hz
  rcases h with ⟨h, hnd⟩ | ⟨a, kvs, rfl, ha, hf, rfl⟩
  · rcases hv with ⟨a, rfl⟩ | rfl | ⟨x, rfl⟩
    · obtain ⟨as, rd⟩ := Dp.reads I d _ u h r
      exact fin r rd (fun e => by rw [hnd] at e; cases e)
    · cases (show u = Value.none from r)
      cases h
      exact P.repr_of_none (q _ _ (I.tok _))
    · obtain ⟨t, e⟩ := (show ∃ t, u = Value.str x t from r)
      cases e
      cases h
      exact P.repr_of_str (q _ _ (I.tok _)) hz
  · obtain ⟨_, hsys, vs, kv, o, es, ep, ho, hx, he, hk, hp, hn⟩ := (show ObjOk X.prog X.w H s.heap a (.dK kvs) from I.hok a _ ha)
    obtain ⟨k1, k2⟩ := key_reads (h := s.heap) hp kv hf
    have rd := Reads.dict (kvs := kvs.map fun e => (keyD e.1, flD e.2)) ho hx.1 he k1 k2
    have eu : u = Value.ref a := r
    refine fin eu (eu ▸ rd) fun _ hm => ?_
    have : sysModules = a := by simpa using (show sysModules ∈ a :: ([] : List Addr) ++ [] from hm)
    rw [← this] at hsys
    simp at hsys
end
end Tk
/-! repr of any plain value; the law's defs that want errors. -/
namespace Tk
open PySem PySem.Spec PyProof.Rows L2
/-- repr(v) is z -/
def Tells (K : PySem.W.Frag) (H : Hp) (v : V) (z : Str) : Prop := (∃ i : Int, v = .int i ∧ i.natAbs.log2 < 1920 ∧ z = Str.ofString (toString i)) ∨ (∃ b : Bool, v = .bl b ∧ z = if b = true then ("True" : Str) else ("False" : Str)) ∨
  ∃ d : PyData, Rp K H v d ∧ ((∃ a, v = .ref a) ∨ flB v) ∧ d.showable = true ∧ d.depth ≤ 64 ∧ d.shown.length ≤ sizeLine ∧ z = d.shown
def rTells (K : PySem.W.Frag) : List V → Hp → VK → Prop := fun xs H Q => ∃ v z, xs = [v] ∧ Tells K H v z ∧ Q (.str z) H
theorem call_tells {X : Cx} {K : PySem.W.Frag} (gs : X.A.guards = some []) (hu : X.A.units + 100 < cLine) (hK : X.K = K := by rfl) : CallR X (.builtin "repr") (rTells K) := by
  subst hK
  intro pins s σ H xs us Q I r h
  obtain ⟨v, z, rfl, ht, q⟩ := h
  obtain ⟨u, rfl, ru⟩ := vals1 r
  rcases ht with ⟨i, rfl, hi, rfl⟩ | ⟨b, rfl, rfl⟩ | ⟨d, h1, h2, h3, h4, h5, rfl⟩
  · obtain ⟨t, e⟩ := (show ∃ t, u = Value.int i t from ru)
    subst e
    exact P.repr_of_int hi ⟨.str _, H, I.tok _, ⟨_, rfl⟩, q⟩
  · cases (show u = Value.bool b from ru)
    exact P.repr_of_bool ⟨.str _, H, I.tok _, ⟨_, by cases b <;> rfl⟩, q⟩
  · exact repr_ok I gs hu ru h1 h2 h3 h4 h5 fun t s' J => ⟨.str d.shown, H, J, ⟨t, rfl⟩, q⟩
end Tk
/-! isinstance of a caught own error that has fields; makes, calls and static calls in a try. -/
namespace Tk
open PySem PySem.Spec PyProof.Rows L2
/-- what isinstance asks of the error's class -/
structure IsC (K : PySem.W.Frag) (D : Addr) : Prop where
  ga : PySem.W.findIn K (.ref D) "__getattribute__" = some (some (.builtin "BaseException.__getattribute__"))
  gg : PySem.W.findIn K (.ref D) "__getattr__" = some none
  exC : PySem.W.subIn K (.ref D) (.type "BaseException") = some true
  hdC : PySem.W.hasDictIn K D = true
  ha : PySem.W.findIn K (.ref D) "__class__" = some (some (.builtin "object.__class__"))
  hn : PySem.W.specialIn K (.builtin "object.__class__") "__get__" = some (some (.builtin "getset_descriptor.__get__"))
  htk : PySem.W.takesIn K (.builtin "object.__class__") = some true
  hm : PySem.W.mroIn K D (.type "object") = some true
def rIsX (K : PySem.W.Frag) (D a : Addr) (cls : Value) (d : Option Addr) : List V → Hp → VK → Prop := fun xs H Q => ∃ (c : V) (cv : Value) (b : Bool) (dd : Addr) (fs : List (Str × V)), xs = [.ref a, c] ∧ (∀ u, RelV c u → u = cv) ∧ cls = .ref D ∧ d = some dd ∧ H dd = some (.xd fs) ∧ PySem.W.kitOne K (.ref D) cv = some b ∧ Q (.bl b) H
theorem isC_some {K : PySem.W.Frag} {C : Addr} (h : PySem.W.hasDictIn K C = true) : (PySem.W.clsIn K C).isSome = true := by
  obtain ⟨cd, hc, _⟩ := PySem.W.any_some h
  rw [hc]
  rfl
section
variable {X : Cx}
theorem call_isX {a D : Addr} {oe : Obj} {cls : Value} {d : Option Addr} {pn : List (Addr × Obj)} (C : IsC X.K D) (hz : Zc cls d oe) (hf : ∃ vs, oe.data = .fields vs) : CallR (X.suite a ((a, oe) :: pn)) (.builtin "isinstance") (rIsX X.K D a cls d) := by
  intro pins s σ H xs us Q I r h
  obtain ⟨c, cv, b, dd, fs, rfl, hcv, rfl, rfl, hdd, e, q⟩ := h
  cases r with
  | cons rx rr =>
    cases rr with
    | cons rt rr2 =>
      cases rr2
      obtain rfl := hcv _ rt
      cases rx
      obtain ⟨hget, _⟩ := I.pin (a, oe) (List.mem_append_left _ List.mem_cons_self)
      obtain ⟨vs, hv⟩ := hf
      have ok : ObjOk X.prog X.w H s.heap dd (.xd fs) := I.hok dd _ hdd
      obtain ⟨mA, hns, hr⟩ := ok
      obtain ⟨od, ho, hl⟩ := lookIn_ns hns
      have J : PySem.W.InstAt s.heap a oe D (some od) := by
        refine ⟨hget, hz.1, ?_, ?_⟩
        · unfold PySem.W.notCls
          rw [hv]
        · rw [hz.2]
          exact ho
      exact PySem.W.kia_one (PySem.W.kitx_exc (isC_some C.hdC) C.ga C.gg C.exC C.ha C.hn C.htk C.hm) I.kIn J e (fun z => nomatch z) fun tk => ⟨.bl b, H, I.kept fun _ _ z => z, rfl, q⟩
end
end Tk
namespace K1
open PySem PySem.Spec PyProof.Rows L2
def topS (i : Nat) : Stmt := PySem.Challenge.pw_soleinstances_k21_books.main.body.getD i (.Pass ⟨0, 0, 0, 0⟩)
abbrev sInvB : Stmt := topS 3
abbrev sBook : Stmt := topS 6
abbrev sIsSwitch : Stmt := topS 7
abbrev sIsWord : Stmt := topS 8
abbrev sIsChange : Stmt := topS 9
abbrev sPool : Stmt := topS 11
abbrev sDraw : Stmt := topS 12
abbrev sPick : Stmt := topS 13
abbrev sWordsL : Stmt := topS 14
abbrev sBookL : Stmt := topS 15
abbrev sRightL : Stmt := topS 16
abbrev sMadeL : Stmt := topS 17
abbrev sNotSet : Stmt := topS 18
abbrev sNoItem : Stmt := topS 19
abbrev sNoChanges : Stmt := topS 20
abbrev sTurned : Stmt := topS 21
abbrev sLaw : Stmt := topS 22
/-- a statement of a class's body -/
def inCls (c : Stmt) (i : Nat) : Stmt := match c with | .ClassDef (body := b) .. => b.getD i (.Pass ⟨0, 0, 0, 0⟩) | _ => .Pass ⟨0, 0, 0, 0⟩
abbrev mInit : Stmt := inCls sBook 0
abbrev mOwner : Stmt := inCls sBook 5
abbrev mLook : Stmt := inCls sBook 7
abbrev mChoose : Stmt := inCls sBook 9
abbrev mWants : Stmt := inCls sBook 11
abbrev mEarly : Stmt := inCls sBook 13
abbrev mSet : Stmt := inCls sBook 15
abbrev mWords : Stmt := inCls sBook 16
abbrev mTwin : Stmt := inCls sBook 17
abbrev mChanged : Stmt := inCls sBook 18
abbrev mDiff : Stmt := inCls sBook 19
abbrev mItem : Stmt := inCls sBook 20
abbrev mEq : Stmt := inCls sBook 24
abbrev mErr : Stmt := inCls sInvB 0
end K1
namespace K1
open PySem PySem.Spec PyProof.Rows L2 Bk
/-- the words of a book -/
structure Wds where
  o : Str
  l : Str
  c : Str
  n : Str
  e : Str
def oW : List Str := ["early", "first", "any", "anybody"]
def lW : List Str := ["apart", "ladder", "same", "nothing"]
def cW : List Str := ["sole", "special", "first"]
def nW : List Str := ["behind", "ahead"]
def eW : List Str := ["refused", "wait", "once"]
def prts : List Str := ["owner", "look", "choose", "wants", "early"]
def Wds.list (w : Wds) : List Str := [w.o, w.l, w.c, w.n, w.e]
def Wds.Ok (w : Wds) : Prop := w.o ∈ oW ∧ w.l ∈ lW ∧ w.c ∈ cW ∧ w.n ∈ nW ∧ w.e ∈ eW
def Wds.kvs (w : Wds) : List (Key × V) := [(.inr "owner", .str w.o), (.inr "look", .str w.l), (.inr "choose", .str w.c), (.inr "wants", .str w.n), (.inr "early", .str w.e)]
/-- the words that a switch may have -/
def optW (p : Str) : List Str := if p = "owner" then oW else if p = "look" then lW else if p = "choose" then cW else if p = "wants" then nW else eW
/-- the words of the switches as they stand in the module -/
structure SWF (K : PySem.W.Frag) (mg : Str → Option Value) (w : World) (D : Addr) : Prop where
  g : mg "SWITCHES" = some (.ref D)
  d : WD K w D prts
  it : ∀ p ∈ prts, ∃ T, KDct K w D p (.ref T) ∧ ∀ H, SqT K H T ((optW p).map V.str)
/-- what is known of the class of books -/
structure BF (K : PySem.W.Frag) (mg : Str → Option Value) (CB : Addr) : Prop where
  cl : Cls K CB
  nC : NoAttr K CB "chosen"
  gB : mg "Book" = some (.ref CB)
  ha : PySem.W.findIn K (.ref CB) "__class__" = some (some (.builtin "object.__class__"))
  hn : PySem.W.specialIn K (.builtin "object.__class__") "__get__" = some (some (.builtin "getset_descriptor.__get__"))
  htk : PySem.W.takesIn K (.builtin "object.__class__") = some true
  hm : PySem.W.mroIn K CB (.type "object") = some true
  own : PySem.W.kitOne K (.ref CB) (.ref CB) = some true
/-- x is a book with these words -/
def BookAt (CB : Addr) (H : Hp) (x : Addr) (w : Wds) : Prop := ∃ dx d, H x = some (.ins CB dx [("chosen", .ref d)]) ∧ H d = some (.dK w.kvs)
theorem BookAt.same {CB : Addr} {H H' : Hp} {x : Addr} {w : Wds} (h : BookAt CB H x w) (s : Same H H') : BookAt CB H' x w := let ⟨dx, d, a, b⟩ := h; ⟨dx, d, s _ _ a, s _ _ b⟩
/-- the module's names -/
structure Tx (mg : Str → Option Value) : Prop where
  len : mg "len" = none
  isi : mg "isinstance" = none
  str : mg "str" = none
  int : mg "int" = none
  range : mg "range" = none
  max : mg "max" = none
  min : mg "min" = none
  tuple : mg "tuple" = none
  list : mg "list" = none
  bool : mg "bool" = none
/-- a value that is no text -/
def NoStr (K : PySem.W.Frag) (H : Hp) (x : V) : Prop := ∃ t : String, TyX K H x (.type t) ∧ kitB t "str" = some false
theorem in_strs (z : Str) (l : List Str) : inV (.str z) (l.map V.str) = decide (z ∈ l) := by
  unfold inV
  induction l with
  | nil => rfl
  | cons a l ih =>
    rw [List.map_cons, List.any_cons, ih]
    show ((a == z) || decide (z ∈ l)) = _
    by_cases h : a = z
    · subst h
      simp
    · rw [beq_eq_false_iff_ne.mpr h, Bool.false_or, decide_eq_decide]
      constructor
      · intro q
        exact List.mem_cons_of_mem _ q
      · intro q
        rcases List.mem_cons.mp q with e | q
        · exact absurd e.symm h
        · exact q
theorem scIsWord : FnScope ["part", "value"] ["part", "value"] (defScope sIsWord) := ⟨rfl, rfl, rfl, by decide +kernel, rfl, by decide +kernel, by decide +kernel⟩
def spIsWord (K : PySem.W.Frag) : Sp := fun vs H Q _ => ∃ (p : Str) (x : V), vs = [.str p, x] ∧ p ∈ prts ∧ ((∃ z, x = .str z ∧ Q (.bl (decide (z ∈ optW p))) H) ∨ (NoStr K H x ∧ Q (.bl false) H))
section
variable {P : Program} {w : World} {K : PySem.W.Frag} {mg : Str → Option Value} {base : Heap} {CB D : Addr}
theorem ok_isWord {f : Addr} {fd : FuncData} (F : Fun K "_is_word" "_is_word" sIsWord f fd) (T : Tx mg) (S : SWF K mg w D) : FnOk P w K mg base CX0 1 f fd ["part", "value"] (spIsWord K) := by
  refine F.ok scIsWord (fun vs H Q E h => ?_) (fun cdv A outer s H vs Q E hr h => ?_)
  · obtain ⟨p, x, rfl, _⟩ := h
    rfl
  · obtain ⟨p, x, rfl, hp, h⟩ := h
    refine ⟨_, pss_one (ps_ret (pe_and (pe_callB call_isi (by rfl) T.isi (by decide +kernel) (pa_cons (pv 1) (pa_cons (pe_bltn (v := .ty "str") (u := .type "str") (by rfl) T.str (by decide +kernel) rfl) pa_nil)))
      (pe_one (pe_cmpR op_in_seq (pv 1) (pe_ix ix_kdict (pe_glob (v := .ref D) (by rfl) S.g rfl) (pv 0) (fun _ _ => rfl)) (by rfl))))), ?_⟩
    obtain ⟨TT, hk, ht⟩ := S.it p hp
    rcases h with ⟨z, rfl, q⟩ | ⟨⟨t, ty, kt⟩, q⟩
    · refine ⟨_, rfl, _, _, _, _, true, rfl, .ty "str", .base (.str z), kit_ty (by decide +kernel), true, rfl, iteT ?_⟩
      refine ⟨_, rfl, _, rfl, D, p, _, rfl, rfl, hk, TT, _, rfl, .inr (ht _), rfl, flat_strs _, ?_⟩
      rw [in_strs]
      exact q
    · exact ⟨_, rfl, _, _, _, _, false, rfl, .ty "str", ty, kit_ty kt, false, rfl, iteF q⟩
end
end K1
namespace K1
open PySem PySem.Spec PyProof.Rows L2 Bk
theorem scInit : FnScope ["self", "owner", "look", "choose", "wants", "early", "chosen", "part"] ["self", "owner", "look", "choose", "wants", "early"] (defScope mInit) := ⟨rfl, rfl, rfl, by decide +kernel, rfl, by decide +kernel, by decide +kernel⟩
theorem keys_ne : (Sum.inr "owner" : Key) ≠ .inr "look" := by decide +kernel
def kvs5 (a b c d e : V) : List (Key × V) := [(.inr "owner", a), (.inr "look", b), (.inr "choose", c), (.inr "wants", d), (.inr "early", e)]
theorem merge5 (a b c d e : V) : mergeK [] (kvs5 a b c d e) = kvs5 a b c d e := by
  have n1 : ¬ ((Sum.inr "owner" : Key) = .inr "look") := by decide +kernel
  have n2 : ¬ ((Sum.inr "owner" : Key) = .inr "choose") := by decide +kernel
  have n3 : ¬ ((Sum.inr "owner" : Key) = .inr "wants") := by decide +kernel
  have n4 : ¬ ((Sum.inr "owner" : Key) = .inr "early") := by decide +kernel
  have n5 : ¬ ((Sum.inr "look" : Key) = .inr "choose") := by decide +kernel
  have n6 : ¬ ((Sum.inr "look" : Key) = .inr "wants") := by decide +kernel
  have n7 : ¬ ((Sum.inr "look" : Key) = .inr "early") := by decide +kernel
  have n8 : ¬ ((Sum.inr "choose" : Key) = .inr "wants") := by decide +kernel
  have n9 : ¬ ((Sum.inr "choose" : Key) = .inr "early") := by decide +kernel
  have n10 : ¬ ((Sum.inr "wants" : Key) = .inr "early") := by decide +kernel
  unfold mergeK kvs5
  simp only [List.foldl, putK, List.any_nil, List.any_cons, Bool.false_eq_true, if_false, List.nil_append, List.cons_append, decide_eq_false n1, decide_eq_false n2, decide_eq_false n3, decide_eq_false n4, decide_eq_false n5, decide_eq_false n6, decide_eq_false n7, decide_eq_false n8, decide_eq_false n9, decide_eq_false n10, Bool.or_false]
theorem kvs5_get (a b c d e : V) : valV (kvs5 a b c d e) (.inr "owner") = some a ∧ valV (kvs5 a b c d e) (.inr "look") = some b ∧ valV (kvs5 a b c d e) (.inr "choose") = some c ∧ valV (kvs5 a b c d e) (.inr "wants") = some d ∧ valV (kvs5 a b c d e) (.inr "early") = some e := by
  have n1 : ¬ ((Sum.inr "owner" : Key) = .inr "look") := by decide +kernel
  have n2 : ¬ ((Sum.inr "owner" : Key) = .inr "choose") := by decide +kernel
  have n3 : ¬ ((Sum.inr "owner" : Key) = .inr "wants") := by decide +kernel
  have n4 : ¬ ((Sum.inr "owner" : Key) = .inr "early") := by decide +kernel
  have n5 : ¬ ((Sum.inr "look" : Key) = .inr "choose") := by decide +kernel
  have n6 : ¬ ((Sum.inr "look" : Key) = .inr "wants") := by decide +kernel
  have n7 : ¬ ((Sum.inr "look" : Key) = .inr "early") := by decide +kernel
  have n8 : ¬ ((Sum.inr "choose" : Key) = .inr "wants") := by decide +kernel
  have n9 : ¬ ((Sum.inr "choose" : Key) = .inr "early") := by decide +kernel
  have n10 : ¬ ((Sum.inr "wants" : Key) = .inr "early") := by decide +kernel
  unfold kvs5
  refine ⟨valV_pos rfl, ?_, ?_, ?_, ?_⟩
  · rw [valV_neg n1]; exact valV_pos rfl
  · rw [valV_neg n2, valV_neg n5]; exact valV_pos rfl
  · rw [valV_neg n3, valV_neg n6, valV_neg n8]; exact valV_pos rfl
  · rw [valV_neg n4, valV_neg n7, valV_neg n9, valV_neg n10]; exact valV_pos rfl
theorem Wds.kvs_eq (w : Wds) : w.kvs = kvs5 (.str w.o) (.str w.l) (.str w.c) (.str w.n) (.str w.e) := rfl
/-- the word of a switch -/
def Wds.at (w : Wds) (p : Str) : Str := if p = "owner" then w.o else if p = "look" then w.l else if p = "choose" then w.c else if p = "wants" then w.n else w.e
theorem prts_cases {p : Str} (h : p ∈ prts) : p = "owner" ∨ p = "look" ∨ p = "choose" ∨ p = "wants" ∨ p = "early" := by
  unfold prts at h
  simp only [List.mem_cons, List.not_mem_nil, or_false] at h
  exact h
theorem Wds.get (w : Wds) {p : Str} (h : p ∈ prts) : valV w.kvs (.inr p) = some (.str (w.at p)) := by
  have g := kvs5_get (.str w.o) (.str w.l) (.str w.c) (.str w.n) (.str w.e)
  have m2 : ¬ (("look" : Str) = "owner") := by decide +kernel
  have m3 : ¬ (("choose" : Str) = "owner") ∧ ¬ (("choose" : Str) = "look") := by decide +kernel
  have m4 : ¬ (("wants" : Str) = "owner") ∧ ¬ (("wants" : Str) = "look") ∧ ¬ (("wants" : Str) = "choose") := by decide +kernel
  have m5 : ¬ (("early" : Str) = "owner") ∧ ¬ (("early" : Str) = "look") ∧ ¬ (("early" : Str) = "choose") ∧ ¬ (("early" : Str) = "wants") := by decide +kernel
  rw [Wds.kvs_eq]
  unfold Wds.at
  rcases prts_cases h with rfl | rfl | rfl | rfl | rfl
  · rw [if_pos rfl]; exact g.1
  · rw [if_neg m2, if_pos rfl]; exact g.2.1
  · rw [if_neg m3.1, if_neg m3.2, if_pos rfl]; exact g.2.2.1
  · rw [if_neg m4.1, if_neg m4.2.1, if_neg m4.2.2, if_pos rfl]; exact g.2.2.2.1
  · rw [if_neg m5.1, if_neg m5.2.1, if_neg m5.2.2.1, if_neg m5.2.2.2]; exact g.2.2.2.2
theorem Wds.Ok.at {w : Wds} (h : w.Ok) {p : Str} (hp : p ∈ prts) : w.at p ∈ optW p := by
  obtain ⟨h1, h2, h3, h4, h5⟩ := h
  have m2 : ¬ (("look" : Str) = "owner") := by decide +kernel
  have m3 : ¬ (("choose" : Str) = "owner") ∧ ¬ (("choose" : Str) = "look") := by decide +kernel
  have m4 : ¬ (("wants" : Str) = "owner") ∧ ¬ (("wants" : Str) = "look") ∧ ¬ (("wants" : Str) = "choose") := by decide +kernel
  have m5 : ¬ (("early" : Str) = "owner") ∧ ¬ (("early" : Str) = "look") ∧ ¬ (("early" : Str) = "choose") ∧ ¬ (("early" : Str) = "wants") := by decide +kernel
  unfold Wds.at optW
  rcases prts_cases hp with rfl | rfl | rfl | rfl | rfl
  · rw [if_pos rfl, if_pos rfl]; exact h1
  · rw [if_neg m2, if_neg m2, if_pos rfl, if_pos rfl]; exact h2
  · rw [if_neg m3.1, if_neg m3.1, if_neg m3.2, if_neg m3.2, if_pos rfl, if_pos rfl]; exact h3
  · rw [if_neg m4.1, if_neg m4.1, if_neg m4.2.1, if_neg m4.2.1, if_neg m4.2.2, if_neg m4.2.2, if_pos rfl, if_pos rfl]; exact h4
  · rw [if_neg m5.1, if_neg m5.1, if_neg m5.2.1, if_neg m5.2.1, if_neg m5.2.2.1, if_neg m5.2.2.1, if_neg m5.2.2.2, if_neg m5.2.2.2]; exact h5
/-- Book.__init__ of good words -/
def spInit (CB : Addr) : Sp := fun vs H Q _ => ∃ (x dx : Addr) (wd : Wds), vs = .ref x :: wd.list.map V.str ∧ H x = some (.ins CB dx []) ∧ wd.Ok ∧
  ∀ (d : Addr), H d = none → Q .non (upd (upd H d (.dK wd.kvs)) x (.ins CB dx [("chosen", .ref d)]))
section
variable {P : Program} {w : World} {K : PySem.W.Frag} {mg : Str → Option Value} {base : Heap} {CB D : Addr}
theorem ok_init {f fW : Addr} {fd fdW : FuncData} (F : Fun K "__init__" "Book.__init__" mInit f fd) (B : BF K mg CB) (S : SWF K mg w D) (mW : mg "_is_word" = some (.ref fW)) (kW : PySem.W.keepIn K (.ref fW) = true) (bW : Binds K fdW ["part", "value"] []) (GW : FnOk P w K mg base CX0 1 fW fdW ["part", "value"] (spIsWord K)) :
    FnOk P w K mg base CX0 2 f fd ["self", "owner", "look", "choose", "wants", "early"] (spInit CB) := by
  refine F.ok scInit (fun vs H Q E h => ?_) (fun cdv A outer s H vs Q E hr h => ?_)
  · obtain ⟨x, dx, wd, rfl, _⟩ := h
    rfl
  · obtain ⟨x, dx, wd, rfl, hx, hok, q⟩ := h
    have hu := hu_of hr
    refine ⟨_, pss_cons (ps_set (i := 6) scInit.nd rfl (Or.inl rfl) (pe_disp (pps_cons pe_str (pv 1) (pps_cons pe_str (pv 2) (pps_cons pe_str (pv 3) (pps_cons pe_str (pv 4) (pps_cons pe_str (pv 5) pps_nil))))) (by rfl) (by rfl) (fun z => by cases z) (by decide)))
      (pss_cons (ps_for PassesOwn.never rfl (pi_wkeys (pe_glob (v := .ref D) (by rfl) S.g rfl)) (pg_name (i := 7) scInit.nd rfl (Or.inl rfl))
        (pss_one (ps_if (pt_not (pt_val (pe_call GW hr (by rfl) mW kW bW .nil pass0 (pa_cons (pv 7) (pa_cons (pe_dget hu (pv 6) (pv 7) (fun _ _ => rfl)) pa_nil))))) (pss_one ps_never) pss_nil)))
      (pss_one (ps_fld (pv 0) (pv 6) rfl))), ?_⟩
    refine fun d nd => ?_
    refine ⟨_, rfl, _, rfl, _, rfl, _, rfl, _, rfl, upd_same, wd.kvs, rfl, by show 5 ≤ 15; decide, ?_⟩
    have hd2 : (upd (upd H d (.dK [])) d (.dK (mergeK [] wd.kvs))) = upd H d (.dK wd.kvs) := by
      rw [Wds.kvs_eq, merge5]
      funext b
      by_cases hb : b = d
      · rw [hb, upd_same, upd_same]
      · rw [upd_ne hb, upd_ne hb, upd_ne hb]
    show _
    rw [hd2]
    refine ⟨D, prts, rfl, S.d, for_it walk_w (fun i σ H' => H' = upd H d (.dK wd.kvs) ∧ σ[0]? = some (some (V.ref x)) ∧ σ[6]? = some (some (V.ref d)) ∧ σ.length = 8) ⟨rfl, rfl, rfl, rfl⟩ (fun _ _ _ _ _ => trivial) ?_ ?_⟩
    · rintro i y σ H1 H2 hi ⟨rfl, s0, s6, sl⟩ ⟨rfl, k, hk, rfl⟩
      have hkm : k ∈ prts := List.mem_of_getElem? hk
      refine ⟨.str k, List.getElem?_set_self (by omega), .ref d, by rw [List.getElem?_set_ne (by decide)]; exact s6, .str k, List.getElem?_set_self (by omega), d, .str (wd.at k), rfl, (Wds.get wd hkm) ▸ DGet.k (k := Sum.inr k) upd_same, ?_⟩
      refine ⟨k, .str (wd.at k), rfl, hkm, .inl ⟨_, rfl, ?_⟩⟩
      rw [decide_eq_true (hok.at hkm)]
      refine ⟨_, rfl, iteF ⟨rfl, by rw [List.getElem?_set_ne (by decide)]; exact s0, by rw [List.getElem?_set_ne (by decide)]; exact s6, by rw [List.length_set]; exact sl⟩⟩
    · rintro σ H1 ⟨rfl, s0, s6, sl⟩
      refine ⟨_, s6, _, s0, x, CB, dx, [], rfl, ?_, B.cl, B.nC, by decide, ?_⟩
      · rw [upd_ne (ne_of_none hx nd)]
        exact hx
      · exact q d nd
end
end K1
namespace K1
open PySem PySem.Spec PyProof.Rows L2 Bk
theorem scErr : FnScope ["self", "part"] ["self", "part"] (defScope mErr) := ⟨rfl, rfl, rfl, by decide +kernel, rfl, by decide +kernel, by decide +kernel⟩
def spErr (CE : Addr) (n : Str) : Sp := fun vs H Q _ => ∃ (a : Addr) (v : V), vs = [.ref a, v] ∧ H a = some (exo a CE none) ∧ ∀ dx, H dx = none → dx ≠ a → Q .non (upd (upd H dx (exd dx [(n, v)])) a (exo a CE (some dx)))
/-- what is known of an error -/
structure EF (K : PySem.W.Frag) (mg : Str → Option Value) (CE fE : Addr) (x n : Str) : Prop where
  ox : OexC K CE
  noV : PySem.W.findIn K (.ref CE) n = some none
  gE : mg x = some (.ref CE)
  iC : PySem.W.findIn K (.ref CE) "__init__" = some (some (.ref fE))
  tI : PySem.W.typeIn K (.ref fE) = some (.type "function")
theorem same_new {H : Hp} {p : Addr} {o : HO} (h : H p = none) : Same H (upd H p o) := fun b x e => by
  rw [upd_ne (ne_of_none e h)]
  exact e
theorem none_of {H H' : Hp} {p : Addr} (s : Same H H') (h : H' p = none) : H p = none := by
  cases e : H p with
  | none => rfl
  | some o =>
    have := s p o e
    rw [h] at this
    cases this
theorem err_same {H : Hp} {a d : Addr} {o1 o2 o3 o4 : HO} (na : H a = none) (nd : H d = none) : Same H (upd (del (upd (upd (upd H a o1) d o2) a o3) a) d o4) := fun b o e => by
  have h1 := ne_of_none e na
  have h2 := ne_of_none e nd
  rw [upd_ne h2, del_ne h1, upd_ne h1, upd_ne h2, upd_ne h1]
  exact e
/-- an error with a field flies -/
def Thr (CE : Addr) (n : Str) (x : V) (H : Hp) (E : XK) : Prop := ∀ (dd : Addr) (H' : Hp), H dd = none → Same H H' → H' dd = some (.xd [(n, x)]) → E (.ref CE) (some dd) H'
theorem Thr.same {CE : Addr} {n : Str} {x : V} {H H' : Hp} {E : XK} (h : Thr CE n x H E) (s : Same H H') : Thr CE n x H' E := fun dd H2 nd s2 e => h dd H2 (none_of s nd) (s.trans s2) e
/-- no book -/
def NotB (K : PySem.W.Frag) (CB : Addr) (H : Hp) (x : V) : Prop := ∃ ty : String, TyX K H x (.type ty) ∧ PySem.W.kitOne K (.type ty) (.ref CB) = some false
def spChkB (K : PySem.W.Frag) (CB CE : Addr) : Sp := fun vs H Q E => ∃ x, vs = [x] ∧ ((∃ a wd, x = .ref a ∧ BookAt CB H a wd ∧ Q .non H) ∨ (NotB K CB H x ∧ Thr CE "part" .non H E))
/-- the reading behind the making of an error, and its flight -/
theorem raise_err {CE : Addr} {n : Str} {v : V} {H : Hp} {E : XK} (h : Thr CE n v H E) : ∀ a, H a = none → spErr CE n [.ref a, v] (upd H a (exo a CE none)) (fun r H2 => r = .non ∧ ∃ (d : Addr) (fs : List (Str × V)), H2 a = some (exo a CE (some d)) ∧ H2 d = some (exd d fs) ∧ H d = none ∧ E (.ref CE) (some d) (upd (del H2 a) d (.xd fs))) (fun _ _ _ => False) := by
  intro a na
  refine ⟨a, v, rfl, upd_same, fun d2 nd2 ne => ⟨rfl, d2, _, upd_same, by rw [upd_ne ne, upd_same], by rw [upd_ne ne] at nd2; exact nd2, ?_⟩⟩
  rw [upd_ne ne] at nd2
  exact h d2 _ nd2 (err_same na nd2) upd_same
section
variable {P : Program} {w : World} {K : PySem.W.Frag} {mg : Str → Option Value} {base : Heap} {CB CE fE : Addr}
theorem ok_err {fd : FuncData} (F : Fun K "__init__" "InvalidBook.__init__" mErr fE fd) (W : EF K mg CE fE "InvalidBook" "part") : FnOk P w K mg base CX0 1 fE fd ["self", "part"] (spErr CE "part") := by
  refine F.ok scErr (fun vs H Q E h => ?_) (fun cdv A outer s H vs Q E hr h => ?_)
  · obtain ⟨a, v, rfl, _⟩ := h
    rfl
  · obtain ⟨a, v, rfl, ha, q⟩ := h
    refine ⟨_, pss_one (ps_ost (pv 0) (pv 1)), ?_⟩
    exact ⟨_, rfl, _, rfl, a, CE, rfl, W.ox, W.noV, .inl ⟨ha, fun dx n ne => q dx n ne⟩⟩
end
end K1
namespace K1
open PySem PySem.Spec PyProof.Rows L2 Bk
theorem scIsSwitch : FnScope ["value"] ["value"] (defScope sIsSwitch) := ⟨rfl, rfl, rfl, by decide +kernel, rfl, by decide +kernel, by decide +kernel⟩
theorem scIsChange : FnScope ["value"] ["value"] (defScope sIsChange) := ⟨rfl, rfl, rfl, by decide +kernel, rfl, by decide +kernel, by decide +kernel⟩
theorem scSet : FnScope ["self", "part", "word"] ["self", "part", "word"] (defScope mSet) := ⟨rfl, rfl, rfl, by decide +kernel, rfl, by decide +kernel, by decide +kernel⟩
theorem scItem : FnScope ["self", "part"] ["self", "part"] (defScope mItem) := ⟨rfl, rfl, rfl, by decide +kernel, rfl, by decide +kernel, by decide +kernel⟩
theorem scTwin : FnScope ["self"] ["self"] (defScope mTwin) := ⟨rfl, rfl, rfl, by decide +kernel, rfl, by decide +kernel, by decide +kernel⟩
theorem scWords : FnScope ["self", "part"] ["self"] (defScope mWords) := ⟨rfl, rfl, rfl, by decide +kernel, rfl, by decide +kernel, by decide +kernel⟩
end K1
namespace K1
open PySem PySem.Spec PyProof.Rows L2 Bk
theorem wd_find {z : Str} : ∀ {es : List DictEntry} {ks : List Str}, es.map keyTx = ks.map some → (es.find? (·.key.isStr z)).isSome = decide (z ∈ ks)
  | [], [], _ => rfl
  | [], _ :: _, h => by cases h
  | _ :: _, [], h => by cases h
  | e :: es, k :: ks, h => by
    rw [List.map_cons, List.map_cons] at h
    injection h with h1 h2
    obtain ⟨t, ht⟩ := keyTx_some h1
    have ih := wd_find (z := z) h2
    have hk : e.key.isStr z = decide (k = z) := by
      rw [ht]
      show (k == z) = _
      rw [Bool.eq_iff_iff]
      simp
    rw [List.find?_cons, hk]
    by_cases e0 : k = z
    · rw [decide_eq_true e0]
      show true = _
      rw [eq_comm, decide_eq_true_iff, e0]
      exact List.mem_cons_self
    · rw [decide_eq_false e0]
      show (es.find? (·.key.isStr z)).isSome = _
      rw [ih, decide_eq_decide]
      exact ⟨fun m => List.mem_cons_of_mem _ m, fun m => (List.mem_cons.mp m).resolve_left fun q => e0 q.symm⟩
theorem wd_in {K : PySem.W.Frag} {w : World} {d : Addr} {ks : List Str} (D : WD K w d ks) : ∃ es n, KDict K w d es n ∧ ∀ z, ∃ r, PySem.W.nsIn K d z = some r ∧ r.isSome = decide (z ∈ ks) := by
  obtain ⟨es, n, D, hk⟩ := D
  refine ⟨es, n, D, fun z => ?_⟩
  have h := wd_find (z := z) hk
  have hr : es.toList.any (·.refKey) = false := by
    rw [List.any_eq_false]
    intro e he
    obtain ⟨x, t, e1, _⟩ := D.lit.all e he
    unfold DictEntry.refKey
    rw [e1]
    exact Bool.false_ne_true
  unfold PySem.W.nsIn
  rw [D.at_]
  dsimp only
  cases e : es.toList.find? (·.key.isStr z) with
  | some v =>
    rw [e] at h
    exact ⟨_, rfl, h⟩
  | none =>
    rw [e] at h
    dsimp only
    rw [hr]
    exact ⟨_, rfl, h⟩
/-- no text, whatever is laid -/
def NoSt (H : Hp) (v : V) : Prop := v = .non ∨ (∃ b, v = .bl b) ∨ (∃ i, v = .int i) ∨ (∃ a xs, v = .ref a ∧ H a = some (.lst xs)) ∨ ∃ a xs, v = .ref a ∧ H a = some (.tup xs)
theorem NoSt.noStr {K : PySem.W.Frag} {H : Hp} {v : V} (h : NoSt H v) : NoStr K H v := by
  rcases h with rfl | ⟨b, rfl⟩ | ⟨i, rfl⟩ | ⟨a, xs, rfl, e⟩ | ⟨a, xs, rfl, e⟩
  · exact ⟨_, .base .non, by decide +kernel⟩
  · exact ⟨_, .base (.bl b), by decide +kernel⟩
  · exact ⟨_, .base (.int i), by decide +kernel⟩
  · exact ⟨_, .base (.lst e), by decide +kernel⟩
  · exact ⟨_, .base (.tup e), by decide +kernel⟩
theorem NoSt.same {H H' : Hp} {v : V} (h : NoSt H v) (s : Same H H') : NoSt H' v := by
  rcases h with h | h | h | ⟨a, xs, e, h⟩ | ⟨a, xs, e, h⟩
  · exact .inl h
  · exact .inr (.inl h)
  · exact .inr (.inr (.inl h))
  · exact .inr (.inr (.inr (.inl ⟨a, xs, e, s _ _ h⟩)))
  · exact .inr (.inr (.inr (.inr ⟨a, xs, e, s _ _ h⟩)))
/-- a value: a text or none -/
def TxAt (H : Hp) (v : V) : Option Str → Prop
  | some z => v = .str z
  | none => NoSt H v
/-- what may be a change: two values in a tuple, or no such tuple -/
def ChAt (K : PySem.W.Frag) (H : Hp) (v : V) : Option (Option Str × Option Str) → Prop
  | some (a, b) => ∃ q x y, v = .ref q ∧ SqT K H q [x, y] ∧ TxAt H x a ∧ TxAt H y b
  | none => (∃ t : String, TyX K H v (.type t) ∧ kitB t "tuple" = some false) ∨ ∃ q xs, v = .ref q ∧ SqT K H q xs ∧ xs.length ≠ 2
def goodC : Option (Option Str × Option Str) → Bool
  | some (some p, some z) => decide (p ∈ prts) && decide (z ∈ optW p)
  | _ => false
def swB : Option Str → Bool
  | some z => decide (z ∈ prts)
  | none => false
theorem swB_t {z : Str} (h : z ∈ prts) : swB (some z) = true := decide_eq_true h
theorem swB_f {z : Str} (h : z ∉ prts) : swB (some z) = false := decide_eq_false h
def spIsSwitch : Sp := fun vs H Q _ => ∃ x o, vs = [x] ∧ TxAt H x o ∧ Q (.bl (swB o)) H
def spIsChange (K : PySem.W.Frag) : Sp := fun vs H Q _ => ∃ x o, vs = [x] ∧ ChAt K H x o ∧ Q (.bl (goodC o)) H
/-- x is a book with these words, its dict at d -/
def BookD (CB : Addr) (H : Hp) (x d : Addr) (w : Wds) : Prop := ∃ dx, H x = some (.ins CB dx [("chosen", .ref d)]) ∧ H d = some (.dK w.kvs)
def Wds.set (w : Wds) (p z : Str) : Wds := ⟨if p = "owner" then z else w.o, if p = "look" then z else w.l, if p = "choose" then z else w.c, if p = "wants" then z else w.n, if p = "early" then z else w.e⟩
theorem Wds.put (w : Wds) {p z : Str} (h : p ∈ prts) : putK w.kvs (.inr p) (.str z) = (w.set p z).kvs := by
  have e : ∀ a b : Str, decide ((Sum.inr a : Key) = .inr b) = decide (a = b) := fun a b => by
    rw [decide_eq_decide]
    exact ⟨fun h => by injection h, fun h => by rw [h]⟩
  have m2 : ¬ (("look" : Str) = "owner") := by decide +kernel
  have m3 : ¬ (("choose" : Str) = "owner") ∧ ¬ (("choose" : Str) = "look") := by decide +kernel
  have m4 : ¬ (("wants" : Str) = "owner") ∧ ¬ (("wants" : Str) = "look") ∧ ¬ (("wants" : Str) = "choose") := by decide +kernel
  have m5 : ¬ (("early" : Str) = "owner") ∧ ¬ (("early" : Str) = "look") ∧ ¬ (("early" : Str) = "choose") ∧ ¬ (("early" : Str) = "wants") := by decide +kernel
  have n1 : ¬ (("owner" : Str) = "look") ∧ ¬ (("owner" : Str) = "choose") ∧ ¬ (("owner" : Str) = "wants") ∧ ¬ (("owner" : Str) = "early") := by decide +kernel
  have n2 : ¬ (("look" : Str) = "choose") ∧ ¬ (("look" : Str) = "wants") ∧ ¬ (("look" : Str) = "early") := by decide +kernel
  have n3 : ¬ (("choose" : Str) = "wants") ∧ ¬ (("choose" : Str) = "early") := by decide +kernel
  have n4 : ¬ (("wants" : Str) = "early") := by decide +kernel
  rcases prts_cases h with rfl | rfl | rfl | rfl | rfl <;> simp [putK, Wds.kvs, Wds.set, m2, m3, m4, m5, n1, n2, n3, n4]
theorem Wds.set_ok {w : Wds} (h : w.Ok) {p z : Str} (hp : p ∈ prts) (hz : z ∈ optW p) : (w.set p z).Ok := by
  obtain ⟨h1, h2, h3, h4, h5⟩ := h
  have m2 : ¬ (("look" : Str) = "owner") := by decide +kernel
  have m3 : ¬ (("choose" : Str) = "owner") ∧ ¬ (("choose" : Str) = "look") := by decide +kernel
  have m4 : ¬ (("wants" : Str) = "owner") ∧ ¬ (("wants" : Str) = "look") ∧ ¬ (("wants" : Str) = "choose") := by decide +kernel
  have m5 : ¬ (("early" : Str) = "owner") ∧ ¬ (("early" : Str) = "look") ∧ ¬ (("early" : Str) = "choose") ∧ ¬ (("early" : Str) = "wants") := by decide +kernel
  have n1 : ¬ (("owner" : Str) = "look") ∧ ¬ (("owner" : Str) = "choose") ∧ ¬ (("owner" : Str) = "wants") ∧ ¬ (("owner" : Str) = "early") := by decide +kernel
  have n2 : ¬ (("look" : Str) = "choose") ∧ ¬ (("look" : Str) = "wants") ∧ ¬ (("look" : Str) = "early") := by decide +kernel
  have n3 : ¬ (("choose" : Str) = "wants") ∧ ¬ (("choose" : Str) = "early") := by decide +kernel
  have n4 : ¬ (("wants" : Str) = "early") := by decide +kernel
  rcases prts_cases hp with rfl | rfl | rfl | rfl | rfl <;> simp [optW, m2, m3, m4, m5] at hz <;> simp [Wds.set, Wds.Ok, m2, m3, m4, m5, n1, n2, n3, n4, *]
section
variable {P : Program} {w : World} {K : PySem.W.Frag} {mg : Str → Option Value} {base : Heap} {CB CE D : Addr}
theorem ok_isSwitch {f : Addr} {fd : FuncData} (F : Fun K "_is_switch" "_is_switch" sIsSwitch f fd) (T : Tx mg) (S : SWF K mg w D) : FnOk P w K mg base CX0 1 f fd ["value"] spIsSwitch := by
  obtain ⟨es, n, KD, hin⟩ := wd_in S.d
  refine F.ok scIsSwitch (fun vs H Q E h => ?_) (fun cdv A outer s H vs Q E hr h => ?_)
  · obtain ⟨x, o, rfl, _⟩ := h
    rfl
  · obtain ⟨x, o, rfl, hx, q⟩ := h
    refine ⟨_, pss_one (ps_ret (pe_and (pe_callB call_isi (by rfl) T.isi (by decide +kernel) (pa_cons (pv 0) (pa_cons (pe_bltn (v := .ty "str") (u := .type "str") (by rfl) T.str (by decide +kernel) rfl) pa_nil)))
      (pe_one (pe_cmpR (op_in_kd KD) (pv 0) (pe_glob (v := .ref D) (by rfl) S.g rfl) (by rfl))))), ?_⟩
    cases o with
    | some z =>
      obtain rfl : x = .str z := hx
      refine ⟨_, rfl, _, _, _, _, true, rfl, .ty "str", .base (.str z), kit_ty (by decide +kernel), true, rfl, iteT ?_⟩
      obtain ⟨r, h1, h2⟩ := hin z
      refine ⟨_, rfl, z, r, rfl, rfl, h1, ?_⟩
      rw [h2]
      exact q
    | none =>
      obtain ⟨t, ty, kt⟩ := NoSt.noStr (K := K) hx
      exact ⟨_, rfl, _, _, _, _, false, rfl, .ty "str", ty, kit_ty kt, false, rfl, iteF q⟩
end
end K1
namespace K1
open PySem PySem.Spec PyProof.Rows L2 Bk
theorem sqT_ty {K : PySem.W.Frag} {H : Hp} {q : Addr} {xs : List V} (h : SqT K H q xs) : TyX K H (.ref q) (.type "tuple") := by
  rcases h with (h | ⟨o, h⟩) | ⟨o, _, _, e, c, _⟩
  · exact .base (.tup h)
  · exact .fTuple h
  · exact .kTuple e c
def spSet (CB CE : Addr) : Sp := fun vs H Q E => ∃ x d wd p z op oz, vs = [.ref x, p, z] ∧ BookD CB H x d wd ∧ TxAt H p op ∧ TxAt H z oz ∧
  ((∃ ps zs, op = some ps ∧ oz = some zs ∧ ps ∈ prts ∧ zs ∈ optW ps ∧ Q .non (upd H d (.dK (wd.set ps zs).kvs))) ∨ (goodC (some (op, oz)) = false ∧ Thr CE "part" p H E))
def spItem (CB CE : Addr) : Sp := fun vs H Q E => ∃ x d wd p op, vs = [.ref x, p] ∧ BookD CB H x d wd ∧ TxAt H p op ∧
  ((∃ ps, op = some ps ∧ ps ∈ prts ∧ Q (.str (wd.at ps)) H) ∨ ((∀ ps, op = some ps → ps ∉ prts) ∧ Thr CE "part" p H E))
def spTwin (CB : Addr) : Sp := fun vs H Q _ => ∃ x d wd, vs = [.ref x] ∧ BookD CB H x d wd ∧ wd.Ok ∧ ∀ (x' d' : Addr) (H' : Hp), H x' = none → H d' = none → Same H H' → BookD CB H' x' d' wd → Q (.ref x') H'
def spWords (CB : Addr) : Sp := fun vs H Q _ => ∃ x d wd, vs = [.ref x] ∧ BookD CB H x d wd ∧ ∀ (t : Addr) (H' : Hp), H t = none → Same H H' → H' t = some (.tup (wd.list.map V.str)) → Q (.ref t) H'
theorem wd_at_list (wd : Wds) {j : Nat} {k : Str} (h : prts[j]? = some k) : wd.list[j]? = some (wd.at k) := by
  have m2 : ¬ (("look" : Str) = "owner") := by decide +kernel
  have m3 : ¬ (("choose" : Str) = "owner") ∧ ¬ (("choose" : Str) = "look") := by decide +kernel
  have m4 : ¬ (("wants" : Str) = "owner") ∧ ¬ (("wants" : Str) = "look") ∧ ¬ (("wants" : Str) = "choose") := by decide +kernel
  have m5 : ¬ (("early" : Str) = "owner") ∧ ¬ (("early" : Str) = "look") ∧ ¬ (("early" : Str) = "choose") ∧ ¬ (("early" : Str) = "wants") := by decide +kernel
  match j, h with
  | 0, h => cases h; unfold Wds.at; rw [if_pos rfl]; rfl
  | 1, h => cases h; unfold Wds.at; rw [if_neg m2, if_pos rfl]; rfl
  | 2, h => cases h; unfold Wds.at; rw [if_neg m3.1, if_neg m3.2, if_pos rfl]; rfl
  | 3, h => cases h; unfold Wds.at; rw [if_neg m4.1, if_neg m4.2.1, if_neg m4.2.2, if_pos rfl]; rfl
  | 4, h => cases h; unfold Wds.at; rw [if_neg m5.1, if_neg m5.2.1, if_neg m5.2.2.1, if_neg m5.2.2.2]; rfl
  | j + 5, h => simp [prts] at h
def kw5 : List Str := ["owner", "look", "choose", "wants", "early"]
section
variable {P : Program} {w : World} {K : PySem.W.Frag} {mg : Str → Option Value} {base : Heap} {CB CE D fE : Addr}
theorem ok_isChange {f fS fW : Addr} {fd fdS fdW : FuncData} (F : Fun K "_is_change" "_is_change" sIsChange f fd) (T : Tx mg)
    (mS : mg "_is_switch" = some (.ref fS)) (kS : PySem.W.keepIn K (.ref fS) = true) (bS : Binds K fdS ["value"] []) (GS : FnOk P w K mg base CX0 1 fS fdS ["value"] spIsSwitch)
    (mW : mg "_is_word" = some (.ref fW)) (kW : PySem.W.keepIn K (.ref fW) = true) (bW : Binds K fdW ["part", "value"] []) (GW : FnOk P w K mg base CX0 1 fW fdW ["part", "value"] (spIsWord K)) :
    FnOk P w K mg base CX0 2 f fd ["value"] (spIsChange K) := by
  refine F.ok scIsChange (fun vs H Q E h => ?_) (fun cdv A outer s H vs Q E hr h => ?_)
  · obtain ⟨x, o, rfl, _⟩ := h
    rfl
  · obtain ⟨x, o, rfl, hx, q⟩ := h
    refine ⟨_, pss_cons (ps_if (PW.pt (pw_or (pt_not (pt_val (pe_callB call_isi (by rfl) T.isi (by decide +kernel) (pa_cons (pv 0) (pa_cons (pe_bltn (v := .ty "tuple") (u := .type "tuple") (by rfl) T.tuple (by decide +kernel) rfl) pa_nil)))))
        (pw_or1 (pt_cmpR op_ne (pe_callB call_len_seq (by rfl) T.len PySem.boot_len (pa_cons (pv 0) pa_nil)) pe_int (nomark _))))) (pss_one (ps_ret pe_bl)) pss_nil) <|
      pss_one (ps_ret (pe_and (pe_call GS hr (by rfl) mS kS bS .nil pass0 (pa_cons (pe_ix ix_tup (pv 0) pe_int (fun _ _ => rfl)) pa_nil)) (pe_one (pe_call GW hr (by rfl) mW kW bW .nil pass0 (pa_cons (pe_ix ix_tup (pv 0) pe_int (fun _ _ => rfl)) (pa_cons (pe_ix ix_tup (pv 0) pe_int (fun _ _ => rfl)) pa_nil)))))), ?_⟩
    cases o with
    | none =>
      rcases hx with ⟨t, ty, kt⟩ | ⟨p, xs, rfl, hp, hne⟩
      · exact ⟨_, rfl, _, _, _, _, false, rfl, .ty "tuple", ty, kit_ty kt, false, rfl, iteT q⟩
      · refine ⟨_, rfl, _, _, _, _, true, rfl, .ty "tuple", sqT_ty hp, kit_ty (by decide +kernel), true, rfl, iteF ?_⟩
        refine ⟨_, rfl, p, _, rfl, .inr hp, rfl, _, rfl, ?_⟩
        rw [decide_eq_false (show ¬ (V.int ((xs.length : Nat) : Int) = V.int 2) from fun e => by injection e with e; omega)]
        exact iteT q
    | some ab =>
      obtain ⟨a, b⟩ := ab
      obtain ⟨p, x, y, rfl, hp, ha, hb⟩ := hx
      refine ⟨_, rfl, _, _, _, _, true, rfl, .ty "tuple", sqT_ty hp, kit_ty (by decide +kernel), true, rfl, iteF ?_⟩
      refine ⟨_, rfl, p, _, rfl, .inr hp, rfl, _, rfl, iteF ?_⟩
      refine ⟨_, rfl, p, _, 0, _, rfl, rfl, hp, atI_nat (j := 0) rfl, x, a, rfl, ha, _, rfl, ?_⟩
      cases a with
      | none => exact iteF q
      | some a =>
        obtain rfl : x = .str a := ha
        by_cases hm : a ∈ prts
        · rw [swB_t hm]
          refine iteT ⟨_, rfl, p, _, 0, _, rfl, rfl, hp, atI_nat (j := 0) rfl, _, rfl, p, _, 1, _, rfl, rfl, hp, atI_nat (j := 1) rfl, a, y, rfl, hm, ?_⟩
          cases b with
          | none => exact .inr ⟨NoSt.noStr hb, q⟩
          | some b =>
            obtain rfl : y = .str b := hb
            refine .inl ⟨b, rfl, ?_⟩
            have q : Q (.bl (decide (a ∈ prts) && decide (b ∈ optW a))) H := q
            rw [decide_eq_true hm, Bool.true_and] at q
            exact q
        · have e : goodC (some (some a, b)) = false := by
            cases b with
            | none => rfl
            | some b =>
              show (decide (a ∈ prts) && _) = false
              rw [decide_eq_false hm, Bool.false_and]
          rw [e] at q
          rw [swB_f hm]
          exact iteF q
theorem ok_set {f fS fW : Addr} {fd fdS fdW fdE : FuncData} (F : Fun K "set_part" "Book.set_part" mSet f fd) (B : BF K mg CB) (W : EF K mg CE fE "InvalidBook" "part") (bE : Binds K fdE ["self", "part"] []) (GE : FnOk P w K mg base CX0 1 fE fdE ["self", "part"] (spErr CE "part"))
    (mS : mg "_is_switch" = some (.ref fS)) (kS : PySem.W.keepIn K (.ref fS) = true) (bS : Binds K fdS ["value"] []) (GS : FnOk P w K mg base CX0 1 fS fdS ["value"] spIsSwitch)
    (mW : mg "_is_word" = some (.ref fW)) (kW : PySem.W.keepIn K (.ref fW) = true) (bW : Binds K fdW ["part", "value"] []) (GW : FnOk P w K mg base CX0 1 fW fdW ["part", "value"] (spIsWord K)) :
    FnOk P w K mg base (CX P w) 3 f fd ["self", "part", "word"] (spSet CB CE) := by
  refine F.okX scSet (fun vs H Q E h => ?_) (fun cdv A outer s H vs Q E hr h => ?_)
  · obtain ⟨x, d, wd, p, z, op, oz, rfl, _⟩ := h
    rfl
  · obtain ⟨x, d, wd, p, z, op, oz, rfl, ⟨dx, hx, hd⟩, hp, hz, h⟩ := h
    have hu := hu_of (hr.mono (by decide) : Room 2 _)
    refine ⟨_, pss_cons (ps_if (PW.pt (pw_or (pt_not (pt_val (pe_call GS (hr.mono (by decide)) (by rfl) mS kS bS .nil pass0 (pa_cons (pv 1) pa_nil)))) (pw_or1 (pt_not (pt_val (pe_call GW (hr.mono (by decide)) (by rfl) mW kW bW .nil pass0 (pa_cons (pv 1) (pa_cons (pv 2) pa_nil))))))))
        (pss_one (ps_raise rfl (takes_of rfl rfl rfl rfl) (pmk_oex (dvs := []) (ds := []) W.ox W.iC W.tI GE hr bE .nil pass0 (by rfl) W.gE (pa_cons (pv 1) pa_nil)))) pss_nil) <|
      pss_one (ps_dput hu (pe_fld (pv 0) rfl) (pv 1) (pv 2) (by rfl)), ?_⟩
    refine ⟨_, rfl, p, op, rfl, hp, _, rfl, ?_⟩
    rcases h with ⟨ps, zs, rfl, rfl, h1, h2, q⟩ | ⟨hb, q⟩
    · obtain rfl : p = .str ps := hp
      obtain rfl : z = .str zs := hz
      rw [swB_t h1]
      refine iteF ⟨_, rfl, _, rfl, ps, _, rfl, h1, .inl ⟨zs, rfl, _, rfl, ?_⟩⟩
      rw [decide_eq_true h2]
      refine iteF ⟨_, rfl, _, rfl, x, CB, dx, _, _, rfl, hx, B.cl, B.nC, rfl, _, rfl, d, _, rfl, DPut.k (k := Sum.inr ps) hd (by show 5 < sizeLine; decide), ?_⟩
      rw [wd.put h1]
      exact q
    · have rs : ∀ {o : Bool}, o = false → True := fun _ => trivial
      cases op with
      | none => exact iteT ⟨_, rfl, by show 1 ≤ 1000; decide, raise_err q⟩
      | some ps =>
        obtain rfl : p = .str ps := hp
        by_cases h1 : ps ∈ prts
        · rw [swB_t h1]
          refine iteF ⟨_, rfl, _, rfl, ps, z, rfl, h1, ?_⟩
          cases oz with
          | none => exact .inr ⟨NoSt.noStr hz, _, rfl, iteT ⟨_, rfl, by show 1 ≤ 1000; decide, raise_err q⟩⟩
          | some zs =>
            obtain rfl : z = .str zs := hz
            have hb : (decide (ps ∈ prts) && decide (zs ∈ optW ps)) = false := hb
            rw [decide_eq_true h1, Bool.true_and] at hb
            refine .inl ⟨zs, rfl, _, rfl, ?_⟩
            rw [hb]
            exact iteT ⟨_, rfl, by show 1 ≤ 1000; decide, raise_err q⟩
        · rw [swB_f h1]
          exact iteT ⟨_, rfl, by show 1 ≤ 1000; decide, raise_err q⟩
theorem ok_item {f fS : Addr} {fd fdS fdE : FuncData} (F : Fun K "__getitem__" "Book.__getitem__" mItem f fd) (B : BF K mg CB) (W : EF K mg CE fE "InvalidBook" "part") (bE : Binds K fdE ["self", "part"] []) (GE : FnOk P w K mg base CX0 1 fE fdE ["self", "part"] (spErr CE "part"))
    (mS : mg "_is_switch" = some (.ref fS)) (kS : PySem.W.keepIn K (.ref fS) = true) (bS : Binds K fdS ["value"] []) (GS : FnOk P w K mg base CX0 1 fS fdS ["value"] spIsSwitch) :
    FnOk P w K mg base (CX P w) 3 f fd ["self", "part"] (spItem CB CE) := by
  refine F.okX scItem (fun vs H Q E h => ?_) (fun cdv A outer s H vs Q E hr h => ?_)
  · obtain ⟨x, d, wd, p, op, rfl, _⟩ := h
    rfl
  · obtain ⟨x, d, wd, p, op, rfl, ⟨dx, hx, hd⟩, hp, h⟩ := h
    have hu := hu_of (hr.mono (by decide) : Room 2 _)
    refine ⟨_, pss_cons (ps_if (pt_not (pt_val (pe_call GS (hr.mono (by decide)) (by rfl) mS kS bS .nil pass0 (pa_cons (pv 1) pa_nil))))
        (pss_one (ps_raise rfl (takes_of rfl rfl rfl rfl) (pmk_oex (dvs := []) (ds := []) W.ox W.iC W.tI GE hr bE .nil pass0 (by rfl) W.gE (pa_cons (pv 1) pa_nil)))) pss_nil) <|
      pss_one (ps_ret (pe_dget hu (pe_fld (pv 0) rfl) (pv 1) (fun _ _ => rfl))), ?_⟩
    refine ⟨_, rfl, p, op, rfl, hp, _, rfl, ?_⟩
    rcases h with ⟨ps, rfl, h1, q⟩ | ⟨hb, q⟩
    · obtain rfl : p = .str ps := hp
      rw [swB_t h1]
      exact iteF ⟨_, rfl, x, CB, dx, _, _, rfl, hx, B.cl, B.nC, rfl, _, rfl, d, _, rfl, (Wds.get wd h1) ▸ DGet.k (k := Sum.inr ps) hd, q⟩
    · cases op with
      | none => exact iteT ⟨_, rfl, by show 1 ≤ 1000; decide, raise_err q⟩
      | some ps =>
        rw [swB_f (hb ps rfl)]
        exact iteT ⟨_, rfl, by show 1 ≤ 1000; decide, raise_err q⟩
theorem ok_twin {f fI : Addr} {fd fdI : FuncData} (F : Fun K "twin" "Book.twin" mTwin f fd) (B : BF K mg CB) (M : Mk K CB fI) (hb : KBn K fdI ["self", "owner", "look", "choose", "wants", "early"] 1 kw5 (fun us ws => us ++ ws) (fun vs zs => vs ++ zs)) (GI : FnOk P w K mg base CX0 2 fI fdI ["self", "owner", "look", "choose", "wants", "early"] (spInit CB)) :
    FnOk P w K mg base CX0 4 f fd ["self"] (spTwin CB) := by
  refine F.ok scTwin (fun vs H Q E h => ?_) (fun cdv A outer s H vs Q E hr h => ?_)
  · obtain ⟨x, d, wd, rfl, _⟩ := h
    rfl
  · obtain ⟨x, d, wd, rfl, ⟨dx, hx, hd⟩, hok, q⟩ := h
    refine ⟨_, pss_one (ps_ret (pe_makeKD M GI hr (by rfl) B.gB hb pass0 (pe_fld (pv 0) rfl))), ?_⟩
    refine ⟨_, rfl, x, CB, dx, _, _, rfl, hx, B.cl, B.nC, rfl, d, wd.kvs, rfl, hd, rfl, fun x' dx' nx ndx ne => ?_⟩
    refine ⟨x', dx', wd, rfl, upd_same, hok, fun d' nd => ⟨rfl, q x' d' _ nx ?_ ?_ ⟨dx', upd_same, ?_⟩⟩⟩
    · rw [upd_ne (show d' ≠ x' from fun e => by rw [e, upd_same] at nd; cases nd)] at nd
      by_cases e : d' = dx'
      · rw [e, upd_same] at nd
        cases nd
      · rw [upd_ne e] at nd
        exact nd
    · have nd1 : H d' = none := by
        rw [upd_ne (show d' ≠ x' from fun e => by rw [e, upd_same] at nd; cases nd)] at nd
        by_cases e : d' = dx'
        · rw [e, upd_same] at nd
          cases nd
        · rw [upd_ne e] at nd
          exact nd
      intro b o e
      rw [upd_ne (ne_of_none e nx), upd_ne (ne_of_none e nd1), upd_ne (ne_of_none e nx), upd_ne (ne_of_none e ndx)]
      exact e
    · rw [upd_ne (show d' ≠ x' from fun e => by rw [e, upd_same] at nd; cases nd), upd_same]
end
end K1
namespace K1
open PySem PySem.Spec PyProof.Rows L2 Bk
theorem scDiff : FnScope ["self", "other", "part"] ["self", "other"] (defScope mDiff) := ⟨rfl, rfl, rfl, by decide +kernel, rfl, by decide +kernel, by decide +kernel⟩
theorem scChanged : FnScope ["self", "changes", "words", "entry", "chosen", "part"] ["self", "changes"] (defScope mChanged) := ⟨rfl, rfl, rfl, by decide +kernel, rfl, by decide +kernel, by decide +kernel⟩
theorem same_upd {H0 H : Hp} {D : Addr} {o : HO} (s : Same H0 H) (n : H0 D = none) : Same H0 (upd H D o) := fun b x e => by
  rw [upd_ne (ne_of_none e n)]
  exact s b x e
theorem small5 {k : Nat} (h : k < 5000) : k < sizeLine := Nat.lt_of_lt_of_le h (by decide)
theorem BookD.same {CB : Addr} {H H' : Hp} {x d : Addr} {w : Wds} (h : BookD CB H x d w) (s : Same H H') : BookD CB H' x d w := let ⟨dx, a, b⟩ := h; ⟨dx, s _ _ a, s _ _ b⟩
theorem wds_str {wd : Wds} {i : Nat} {k : Str} (h : prts[i]? = some k) : (wd.list.map V.str).take (i + 1) = (wd.list.map V.str).take i ++ [V.str (wd.at k)] := by
  rw [List.take_add_one, List.getElem?_map, wd_at_list wd h]
  rfl
/-- what is told of two books: a part and the other's word, where they differ -/
def diffL (w v : Wds) (ps : List Str) : List (Str × Str) := (ps.filter fun p => !decide (w.at p = v.at p)).map fun p => (p, v.at p)
section
variable {P : Program} {w : World} {K : PySem.W.Frag} {mg : Str → Option Value} {base : Heap} {CB CE D fE : Addr}
theorem ok_words {f : Addr} {fd : FuncData} (F : Fun K "words" "Book.words" mWords f fd) (T : Tx mg) (B : BF K mg CB) (S : SWF K mg w D) : FnOk P w K mg base CX0 1 f fd ["self"] (spWords CB) := by
  refine F.ok scWords (fun vs H Q E h => ?_) (fun cdv A outer s H vs Q E hr h => ?_)
  · obtain ⟨x, d, wd, rfl, _⟩ := h
    rfl
  · obtain ⟨x, d, wd, rfl, ⟨dx, hx, hd⟩, q⟩ := h
    have hu := hu_of hr
    refine ⟨_, pss_one (ps_ret (pe_callTy call_tuple_of (by rfl) T.tuple (by decide +kernel) (pa_cons (pe_lc (own := [("part", 1)]) (g := gName 1) (tt := tYes) (te := tDGet (tFld K (tVar 0) "chosen") (tVar 1)) (by rfl) scWords.nd (pi_wkeys (pe_glob (v := .ref D) (by rfl) S.g rfl)) (blkOk_by (own := [("part", 1)]) (N := ["self", "part"]) (sc := defScope mWords) (by decide +kernel)) (fun _ _ _ _ _ => pg_name (i := 1) scWords.nd rfl (Or.inl rfl)) (fun _ _ _ _ _ => pts_nil)
      (fun _ _ _ _ _ => by exact pe_dget hu (pe_fld (pv 0) rfl) (pv 1) (fun _ _ => rfl))) pa_nil))), ?_⟩
    refine ⟨D, prts, rfl, S.d, fun L nL => lc_it (walk_w (ks := prts)) (fun i H' => Same H H' ∧ H' L = some (.lst ((wd.list.map V.str).take i))) ⟨same_new nL, by rw [List.take_zero]; exact upd_same⟩ (fun _ _ _ _ => trivial) ?_ ?_⟩
    · rintro i y H1 H2 hi ⟨s1, hL⟩ ⟨rfl, k, hk, rfl⟩
      have hkm : k ∈ prts := List.mem_of_getElem? hk
      refine ⟨rfl, ?_⟩
      unfold tYes
      refine iteT ⟨_, rfl, x, CB, dx, _, _, rfl, s1 _ _ hx, B.cl, B.nC, rfl, _, rfl, d, _, rfl, (Wds.get wd hkm) ▸ DGet.k (k := Sum.inr k) (s1 _ _ hd), _, hL, ?_, same_upd s1 nL, ?_⟩
      · rw [List.length_take]
        exact small5 (by have : (wd.list.map V.str).length = 5 := rfl; omega)
      · rw [upd_same, wds_str hk]
    · rintro H1 ⟨s1, hL⟩
      have hL : H1 L = some (.lst (wd.list.map V.str)) := by
        have e : (wd.list.map V.str).take prts.length = wd.list.map V.str := List.take_of_length_le (Nat.le_refl 5)
        rw [← e]
        exact hL
      refine ⟨L, _, rfl, .inl ⟨SqL.of hL, fun t nt => q t _ (none_of s1 nt) (s1.trans (same_new nt)) upd_same⟩⟩
end
end K1
namespace K1
open PySem PySem.Spec PyProof.Rows L2 Bk
theorem dc_it {J : It} {n : Nat} {G : Hp → Prop} {Y : Nat → Hp → V → Hp → Prop} (w : Walk J n G Y) {g : TG} {tt : TT} {tk tv : TE} {vs : List Nat} {σ : L2.St} {H1 : Hp} {D : Addr} {Qd : Hp → Prop} (Pv : Nat → Hp → Prop) (h0 : Pv 0 (upd H1 D (.dK []))) (hG : ∀ i H, i ≤ n → Pv i H → G H)
    (hs : ∀ i x H H', i < n → Pv i H → Y i H x H' → g x (wipe σ vs) H' fun σ2 H2 => wipe σ2 vs = wipe σ vs ∧ tt σ2 H2 fun b H3 =>
      if b = true then tk σ2 H3 fun y H4 => tv σ2 H4 fun v H5 => ∃ kvs k, y = kV k ∧ H5 D = some (.dK kvs) ∧ kvs.length < sizeLine ∧ Pv (i + 1) (upd H5 D (.dK (putK kvs k v))) else Pv (i + 1) H3) (hd : ∀ H, Pv n H → Qd H) :
    ∃ W : Nat → Nat → Hp → Prop, (∃ m, W 0 m (upd H1 D (.dK []))) ∧ ∀ i m H, W i m H →
      (J.stop i H ∧ Qd H) ∨ (J.go i H ∧ ∃ Nx : Hp → Prop, (∀ H', Nx H' → ∃ m', m' < m ∧ W (i + 1) m' H') ∧ ∀ x H', J.yld i H x H' → g x (wipe σ vs) H' fun σ2 H2 => wipe σ2 vs = wipe σ vs ∧ tt σ2 H2 fun b H3 =>
        if b = true then tk σ2 H3 fun y H4 => tv σ2 H4 fun v H5 => ∃ kvs k, y = kV k ∧ H5 D = some (.dK kvs) ∧ kvs.length < sizeLine ∧ Nx (upd H5 D (.dK (putK kvs k v))) else Nx H3) := by
  refine ⟨fun i m H => m = n - i ∧ i ≤ n ∧ Pv i H, ⟨n, by simp, Nat.zero_le _, h0⟩, ?_⟩
  rintro i m H ⟨rfl, hi, p⟩
  have q := hG i H hi p
  by_cases lt : i < n
  · exact .inr ⟨w.goes i H lt q, Pv (i + 1), fun H' p' => ⟨n - (i + 1), by omega, rfl, lt, p'⟩, fun x H' y => hs i x H H' lt p (w.yields i H x H' lt q y)⟩
  · have e : i = n := by omega
    subst e
    exact .inl ⟨w.stops H q, hd H p⟩
end K1
namespace K1
open PySem PySem.Spec PyProof.Rows L2 Bk
abbrev CH := Option (Option Str × Option Str)
/-- the change at hand, behind those that were taken -/
def okC (c : CH) (acc : List (Str × Str)) : Option (Str × Str) := match c with
  | some (some p, some z) => if goodC (some (some p, some z)) = true ∧ p ∉ acc.map (·.1) then some (p, z) else none
  | _ => none
/-- all changes (inl: the place of the first that is none) -/
def chg : List CH → List (Str × Str) → Sum Nat (List (Str × Str))
  | [], acc => .inr acc
  | c :: cs, acc => match okC c acc with
    | some pz => (match chg cs (acc ++ [pz]) with | .inl k => .inl (k + 1) | .inr a => .inr a)
    | none => .inl 0
def chgAt (i : Nat) : Sum Nat (List (Str × Str)) → Sum Nat (List (Str × Str))
  | .inl k => .inl (i + k)
  | .inr a => .inr a
theorem chg_step {c : CH} {cs : List CH} {acc : List (Str × Str)} {pz : Str × Str} {i : Nat} (h : okC c acc = some pz) : chgAt i (chg (c :: cs) acc) = chgAt (i + 1) (chg cs (acc ++ [pz])) := by
  show chgAt i (match okC c acc with | some pz => (match chg cs (acc ++ [pz]) with | .inl k => .inl (k + 1) | .inr a => .inr a) | none => .inl 0) = _
  rw [h]
  show chgAt i (match chg cs (acc ++ [pz]) with | .inl k => .inl (k + 1) | .inr a => .inr a) = _
  cases chg cs (acc ++ [pz]) with
  | inl k =>
    show Sum.inl (i + (k + 1)) = Sum.inl (i + 1 + k)
    congr 1
    omega
  | inr a => rfl
theorem chg_bad {c : CH} {cs : List CH} {acc : List (Str × Str)} {i : Nat} (h : okC c acc = none) : chgAt i (chg (c :: cs) acc) = .inl i := by
  show chgAt i (match okC c acc with | some pz => (match chg cs (acc ++ [pz]) with | .inl k => .inl (k + 1) | .inr a => .inr a) | none => .inl 0) = _
  rw [h]
  rfl
theorem okC_some {c : CH} {acc : List (Str × Str)} {pz : Str × Str} (h : okC c acc = some pz) : c = some (some pz.1, some pz.2) ∧ pz.1 ∈ prts ∧ pz.2 ∈ optW pz.1 ∧ pz.1 ∉ acc.map (·.1) := by
  unfold okC at h
  split at h
  · rename_i p z
    split at h
    · rename_i hh
      cases h
      obtain ⟨h1, h2⟩ := hh
      have h1 : (decide (p ∈ prts) && decide (z ∈ optW p)) = true := h1
      rw [Bool.and_eq_true, decide_eq_true_iff, decide_eq_true_iff] at h1
      exact ⟨rfl, h1.1, h1.2, h2⟩
    · cases h
  · cases h
def accK (acc : List (Str × Str)) : List (Key × V) := acc.map fun pz => (.inr pz.1, .str pz.2)
theorem accK_get (acc : List (Str × Str)) (p : Str) : (valV (accK acc) (.inr p)).isSome = decide (p ∈ acc.map (·.1)) := by
  rw [← valV_any]
  unfold accK
  rw [List.any_map, Bool.eq_iff_iff, List.any_eq_true, decide_eq_true_iff, List.mem_map]
  constructor
  · rintro ⟨pz, h1, h2⟩
    have h2 : (Sum.inr pz.1 : Key) = .inr p := of_decide_eq_true h2
    exact ⟨pz, h1, by injection h2⟩
  · rintro ⟨pz, h1, h2⟩
    exact ⟨pz, h1, decide_eq_true (by show (Sum.inr pz.1 : Key) = .inr p; rw [h2])⟩
theorem accK_put {acc : List (Str × Str)} {p z : Str} (h : p ∉ acc.map (·.1)) : putK (accK acc) (.inr p) (.str z) = accK (acc ++ [(p, z)]) := by
  have e : ((accK acc).any fun kv => decide (kv.1 = (Sum.inr p : Key))) = false := by
    rw [valV_any, accK_get]
    exact decide_eq_false h
  unfold putK
  rw [e, if_neg Bool.false_ne_true]
  unfold accK
  rw [List.map_append]
  rfl
/-- the word of a part behind the changes -/
def ovW (wd : Wds) (acc : List (Str × Str)) (p : Str) : Str := ((acc.find? fun pz => decide (pz.1 = p)).map (·.2)).getD (wd.at p)
def ov (wd : Wds) (acc : List (Str × Str)) : Wds := ⟨ovW wd acc "owner", ovW wd acc "look", ovW wd acc "choose", ovW wd acc "wants", ovW wd acc "early"⟩
theorem accK_val (wd : Wds) (acc : List (Str × Str)) (p : Str) : (valV (accK acc) (.inr p)).getD (.str (wd.at p)) = .str (ovW wd acc p) := by
  unfold ovW
  induction acc with
  | nil => rfl
  | cons a acc ih =>
    rw [List.find?_cons]
    by_cases h : a.1 = p
    · rw [decide_eq_true h]
      have : valV (accK (a :: acc)) (.inr p) = some (.str a.2) := valV_pos (by show (Sum.inr a.1 : Key) = .inr p; rw [h])
      rw [this]
      rfl
    · rw [decide_eq_false h]
      have : valV (accK (a :: acc)) (.inr p) = valV (accK acc) (.inr p) := valV_neg (fun e => h (by injection e))
      rw [this]
      exact ih
theorem ov_ok {wd : Wds} (h : wd.Ok) {acc : List (Str × Str)} (ha : ∀ pz ∈ acc, pz.2 ∈ optW pz.1) : (ov wd acc).Ok := by
  have g : ∀ p ∈ prts, ovW wd acc p ∈ optW p := by
    intro p hp
    unfold ovW
    cases e : acc.find? fun pz => decide (pz.1 = p) with
    | none => exact h.at hp
    | some pz =>
      have h1 := List.mem_of_find?_eq_some e
      have h2 : pz.1 = p := of_decide_eq_true (by have := List.find?_some e; exact this)
      have := ha pz h1
      rw [h2] at this
      exact this
  have e1 : optW "owner" = oW := by decide +kernel
  have e2 : optW "look" = lW := by decide +kernel
  have e3 : optW "choose" = cW := by decide +kernel
  have e4 : optW "wants" = nW := by decide +kernel
  have e5 : optW "early" = eW := by decide +kernel
  have g1 := g "owner" (by decide +kernel)
  have g2 := g "look" (by decide +kernel)
  have g3 := g "choose" (by decide +kernel)
  have g4 := g "wants" (by decide +kernel)
  have g5 := g "early" (by decide +kernel)
  rw [e1] at g1
  rw [e2] at g2
  rw [e3] at g3
  rw [e4] at g4
  rw [e5] at g5
  exact ⟨g1, g2, g3, g4, g5⟩
def ovK (wd : Wds) (acc : List (Str × Str)) (ps : List Str) : List (Key × V) := ps.map fun p => (.inr p, .str (ovW wd acc p))
theorem ovK_all (wd : Wds) (acc : List (Str × Str)) : ovK wd acc prts = (ov wd acc).kvs := rfl
theorem ovK_put {wd : Wds} {acc : List (Str × Str)} {ps : List Str} {p : Str} (h : p ∉ ps) : putK (ovK wd acc ps) (.inr p) (.str (ovW wd acc p)) = ovK wd acc (ps ++ [p]) := by
  have e : ((ovK wd acc ps).any fun kv => decide (kv.1 = (Sum.inr p : Key))) = false := by
    unfold ovK
    rw [List.any_map, List.any_eq_false]
    intro x hx
    show ¬ decide ((Sum.inr x : Key) = .inr p) = true
    rw [decide_eq_true_iff]
    intro e
    injection e with e
    exact h (e ▸ hx)
  unfold putK
  rw [e, if_neg Bool.false_ne_true]
  unfold ovK
  rw [List.map_append]
  rfl
def spChanged (K : PySem.W.Frag) (CB CE : Addr) : Sp := fun vs H Q E => ∃ x d wd v, vs = [.ref x, v] ∧ BookD CB H x d wd ∧ wd.Ok ∧
  ((∃ l es cs, v = .ref l ∧ H l = some (.lst es) ∧ es.length ≤ 100 ∧ es.length = cs.length ∧ (∀ (i : Nat) (e : V) (c : CH), es[i]? = some e → cs[i]? = some c → ∀ H', Same H H' → ChAt K H' e c) ∧
    ((∃ acc, chg cs [] = .inr acc ∧ ∀ (x' d' : Addr) (H' : Hp), H x' = none → H d' = none → Same H H' → BookD CB H' x' d' (ov wd acc) → Q (.ref x') H') ∨ (∃ i e, chg cs [] = .inl i ∧ es[i]? = some e ∧ Thr CE "part" e H E))) ∨
  ((∃ t : String, TyX K H v (.type t) ∧ kitB t "list" = some false) ∧ Thr CE "part" .non H E))
end K1
/-! name = {k: v for ..}, a statement. -/
namespace Bk
open PySem PySem.Spec PyProof.Rows L2
section
variable {X : Cx}
theorem ps_setDc {i : Nat} {y : Str} {py : Pos} {kx vx tg iter : Expr} {ifs : List Expr} {scope : Scope} {own : List (Str × Nat)} {pos spos : Pos} {wi : TI} {g : TG} {tt : TT} {tk tv : TE} (hc : X.calm = true) (hN : X.N.Nodup) (hy : X.N[i]? = some y) (hyl : X.env.scope.names.lookup y = some .local)
    (hsw : swapsWith (.DictComp kx vx [⟨tg, iter, ifs, 0⟩] scope pos) (some (.Name y py)) spos.line X.env = pure true) (hi : PI X tg iter wi) (ok : BlkOk X.N X.env.scope scope own)
    (hg : ∀ (s : Shared) (H : Hp) (C : Addr) (cl : List (Str × Addr)) (fp : List Addr), PG (X.blk s H scope (compEnvC scope cl C X.env) fp) tg g) (ht : ∀ (s : Shared) (H : Hp) (C : Addr) (cl : List (Str × Addr)) (fp : List Addr), PTs (X.blk s H scope (compEnvC scope cl C X.env) fp) ifs tt)
    (hk : ∀ (s : Shared) (H : Hp) (C : Addr) (cl : List (Str × Addr)) (fp : List Addr), PE (X.blk s H scope (compEnvC scope cl C X.env) fp) kx tk)
    (he : ∀ (s : Shared) (H : Hp) (C : Addr) (cl : List (Str × Addr)) (fp : List Addr), PE (X.blk s H scope (compEnvC scope cl C X.env) fp) vx tv) (hs : ∀ x, foldedSetIterable iter X.env x = pure x := by intro _; rfl) :
    PS X (.Assign [.Name y py] (.DictComp kx vx [⟨tg, iter, ifs, 0⟩] scope pos) spos) (tAsg (tDc wi g tt tk tv (own.map (·.2))) (gName i)) := by
  refine ⟨fun pins s σ H D I h => ?_⟩
  rw [exec_Assign_Name_used _ _ _ _ hsw]
  refine wpAny_bind (wpAny_standAt (wpAny_bind ?_))
  show wpAny _ X.A (do let _ ← comprehension (.DictComp kx vx [⟨tg, iter, ifs, 0⟩] scope pos) scope X.env (firstIterPos [⟨tg, iter, ifs, 0⟩] pos) newDict false (eval iter X.env) (some (assign (.Name y py) X.env))) _ _ s
  have h : tDc wi g tt tk tv (own.map (·.2)) σ H (fun x H1 => gName i x σ H1 D.nx) := h
  refine wpAny_bind (thn (dc_core (Qf := fun _ s' => SP X pins D .next s') hc hN I hi ok hg ht hk he hs h fun L C s' m H' I' q hn f => ?_) fun _ s' hq => wpAny_pure (wpAny_pure hq))
  show wpAny _ _ (assign (.Name y py) X.env (.ref L)) _ _ _
  refine wpAny_assign_Name (store_ok2 (v := V.ref L) I' hN hy (.inl hyl) rfl (fun s2 I2 ⟨a, sb, ha⟩ => ?_) (.inr hyl))
  obtain ⟨f0, f1, f2, f3, f4, f5⟩ := f
  have haC : C ≠ a := by
    rcases ha with z | z
    · rw [z]
      exact f1
    · exact fun e => f4 y a z e.symm
  exact ⟨m, hn.sameBut sb haC, fun h3 sb3 => ⟨_, H', I2.turned (t' := s2.toks) (fun b o hb e => (sb3.2 b hb).trans e) f0 f1 f3 f4 f5, q⟩⟩
theorem sw_dict {kx vx : Expr} {gs : List Comprehension} {scope : Scope} {pos py : Pos} {y : Str} {l : Nat} {env : Env} (hk : env.scope.kind = .function) (hy : env.scope.names.lookup y = some .local) (hl : (py.line == pos.line) = true)
    (ha : (scope.names.any fun (n, k) => n == y && (k == .local || k == .cell)) = false) : swapsWith (.DictComp kx vx gs scope pos) (some (.Name y py)) l env = pure true := by
  have ky : env.kindOf y = some .local := hy
  have hb : env.blockKind = .function := by
    unfold Env.blockKind
    rw [hk]
    rfl
  unfold swapsWith
  simp only [hb, ky, ha, Expr.pos, hl]
  rfl
end
end Bk
namespace K1
open PySem PySem.Spec PyProof.Rows L2 Bk
section
variable {P : Program} {w : World} {K : PySem.W.Frag} {mg : Str → Option Value} {base : Heap} {CB CE D fE fI : Addr}
theorem ok_changed {f fC : Addr} {fd fdC fdE fdI : FuncData} (F : Fun K "changed" "Book.changed" mChanged f fd) (T : Tx mg) (B : BF K mg CB) (S : SWF K mg w D) (W : EF K mg CE fE "InvalidBook" "part") (bE : Binds K fdE ["self", "part"] []) (GE : FnOk P w K mg base CX0 1 fE fdE ["self", "part"] (spErr CE "part"))
    (mC : mg "_is_change" = some (.ref fC)) (kC : PySem.W.keepIn K (.ref fC) = true) (bC : Binds K fdC ["value"] []) (GC : FnOk P w K mg base CX0 2 fC fdC ["value"] (spIsChange K))
    (M : Mk K CB fI) (hb : KBn K fdI ["self", "owner", "look", "choose", "wants", "early"] 1 kw5 (fun us ws => us ++ ws) (fun vs zs => vs ++ zs)) (GI : FnOk P w K mg base CX0 2 fI fdI ["self", "owner", "look", "choose", "wants", "early"] (spInit CB)) :
    FnOk P w K mg base (CX P w) 4 f fd ["self", "changes"] (spChanged K CB CE) := by
  refine F.okX scChanged (fun vs H Q E h => ?_) (fun cdv A outer s H vs Q E hr h => ?_)
  · obtain ⟨x, d, wd, v, rfl, _⟩ := h
    rfl
  · obtain ⟨x, d, wd, v, rfl, ⟨dx, hx, hd⟩, hok, h⟩ := h
    have hu := hu_of (hr.mono (by decide) : Room 2 _)
    refine ⟨_, pss_cons (ps_if (pt_not (pt_val (pe_callB call_isi (by rfl) T.isi (by decide +kernel) (pa_cons (pv 1) (pa_cons (pe_bltn (v := .ty "list") (u := .type "list") (by rfl) T.list (by decide +kernel) rfl) pa_nil)))))
        (pss_one (ps_raise rfl (takes_of rfl rfl rfl rfl) (pmk_oex (dvs := []) (ds := []) W.ox W.iC W.tI GE (hr.mono (by decide)) bE .nil pass0 (by rfl) W.gE (pa_cons pe_non pa_nil)))) pss_nil) <|
      pss_cons (ps_set (i := 2) scChanged.nd rfl (Or.inr rfl) pe_dnewK) <|
      pss_cons (ps_for (passes_of rfl) rfl (pi_list (pv 1)) (pg_name (i := 3) scChanged.nd rfl (Or.inl rfl))
        (pss_cons (ps_if (PW.pt (pw_or (pt_not (pt_val (pe_call GC (hr.mono (by decide)) (by rfl) mC kC bC .nil pass0 (pa_cons (pv 3) pa_nil)))) (pw_or1 (pt_cmp (pc_din hu (pe_ix ix_tup (pv 3) pe_int (fun _ _ => rfl)) (pv 2)) (by rfl)))))
          (pss_one (ps_raise rfl (takes_of rfl rfl rfl rfl) (pmk_oex (dvs := []) (ds := []) W.ox W.iC W.tI GE (hr.mono (by decide)) bE .nil pass0 (by rfl) W.gE (pa_cons (pv 3) pa_nil)))) pss_nil) <|
        pss_one (ps_dput hu (pv 2) (pe_ix ix_tup (pv 3) pe_int (fun _ _ => rfl)) (pe_ix ix_tup (pv 3) pe_int (fun _ _ => rfl)) (by rfl)))) <|
      pss_cons (ps_setDc (i := 4) (own := [("part", 5)]) (g := gName 5) (tt := tYes) (tk := tVar 5) (tv := tDGet2 (tVar 2) (tVar 5) (tDGet (tFld K (tVar 0) "chosen") (tVar 5))) (by rfl) scChanged.nd rfl rfl (sw_dict rfl rfl rfl (by decide +kernel)) (pi_wkeys (pe_glob (v := .ref D) (by rfl) S.g rfl)) (blkOk_by (own := [("part", 5)]) (N := ["self", "changes", "words", "entry", "chosen", "part"]) (sc := defScope mChanged) (by decide +kernel))
        (fun _ _ _ _ _ => pg_name (i := 5) scChanged.nd rfl (Or.inl rfl)) (fun _ _ _ _ _ => pts_nil) (fun _ _ _ _ _ => pv 5) (fun _ _ _ _ _ => by exact pe_dget2 hu (pv 2) (pv 5) (pe_dget hu (pe_fld (pv 0) rfl) (pv 5) (fun _ _ => rfl)) ⟨rfl, rfl, rfl, rfl⟩)) <|
      pss_one (ps_ret (pe_makeKD M GI (hr.mono (by decide)) (by rfl) B.gB hb pass0 (pv 4))), ?_⟩
    rcases h with ⟨l, es, cs, rfl, hl, hlen, hec, hch, h⟩ | ⟨⟨t, ty, kt⟩, q⟩
    · refine ⟨_, rfl, _, _, _, _, true, rfl, .ty "list", .base (.lst hl), kit_ty (by decide +kernel), true, rfl, iteF ?_⟩
      refine fun dw nw => ?_
      have sw := same_new (o := .dK []) nw
      have hwl : dw ≠ l := fun e => by
        rw [e, hl] at nw
        cases nw
      have thr : ∀ {e : V} {H' : Hp}, Same H H' → Thr CE "part" e H E → 1 ≤ 1000 ∧ ∀ a, H' a = none → spErr CE "part" [.ref a, e] (upd H' a (exo a CE none)) (fun r H2 => r = .non ∧ ∃ (d : Addr) (fs : List (Str × V)), H2 a = some (exo a CE (some d)) ∧ H2 d = some (exd d fs) ∧ H' d = none ∧ E (.ref CE) (some d) (upd (del H2 a) d (.xd fs))) (fun _ _ _ => False) := fun s' q => ⟨by decide, raise_err (q.same s')⟩
      refine ⟨_, rfl, l, rfl, ⟨_, SqL.of (sw _ _ hl)⟩, for_it (walk_list (K := K) (a := l) (xs := es)) (fun i σ H' => ∃ v3 acc, σ = [some (.ref x), some (.ref l), some (.ref dw), v3, none, none] ∧ Same H H' ∧ H' dw = some (.dK (accK acc)) ∧ acc.length ≤ i ∧ (∀ pz ∈ acc, pz.2 ∈ optW pz.1) ∧ chg cs [] = chgAt i (chg (cs.drop i) acc)) ⟨none, [], rfl, sw, upd_same, Nat.le_refl _, (fun _ h => by cases h), by rw [List.drop_zero]; cases chg cs [] with | inl k => (show _ = Sum.inl (0 + k); rw [Nat.zero_add]) | inr a => rfl⟩ (fun i σ H' _ h => by obtain ⟨_, _, _, h, _⟩ := h; exact SqL.of (h _ _ hl)) ?_ ?_⟩
      · rintro i u σ H1 H2 hi ⟨v3, acc, rfl, s1, hd1, hal, haw, hcg⟩ ⟨rfl, hu⟩
        obtain ⟨c, hc⟩ : ∃ c, cs[i]? = some c := ⟨cs[i]'(by omega), List.getElem?_eq_getElem _⟩
        have hcd : cs.drop i = c :: cs.drop (i + 1) := by
          rw [List.drop_eq_getElem_cons (by omega)]
          congr 1
          exact (List.getElem?_eq_some_iff.mp hc).2
        rw [hcd] at hcg
        have hat := hch i u c hu hc _ s1
        refine ⟨_, rfl, u, c, rfl, hat, _, rfl, ?_⟩
        cases ho : okC c acc with
        | some pz =>
          obtain ⟨rfl, h1, h2, h3⟩ := okC_some ho
          obtain ⟨q0, x1, y1, rfl, hq, hx1, hy1⟩ := hat
          obtain rfl : x1 = .str pz.1 := hx1
          obtain rfl : y1 = .str pz.2 := hy1
          have hg : goodC (some (some pz.1, some pz.2)) = true := by
            show (decide (pz.1 ∈ prts) && decide (pz.2 ∈ optW pz.1)) = true
            rw [decide_eq_true h1, decide_eq_true h2]
            rfl
          rw [hg]
          refine iteF ⟨_, rfl, q0, _, 0, _, rfl, rfl, hq, atI_nat (j := 0) rfl, _, rfl, dw, _, rfl, DGet.k (k := Sum.inr pz.1) hd1, _, rfl, ?_⟩
          rw [accK_get, decide_eq_false h3]
          rw [chg_step ho] at hcg
          refine iteF ⟨_, rfl, q0, _, 1, _, rfl, rfl, hq, atI_nat (j := 1) rfl, _, rfl, _, rfl, q0, _, 0, _, rfl, rfl, hq, atI_nat (j := 0) rfl, dw, _, rfl, DPut.k (k := Sum.inr pz.1) hd1 ?_, _, acc ++ [pz], rfl, same_upd s1 nw, ?_, ?_, ?_, hcg⟩
          · unfold accK
            rw [List.length_map]
            exact small5 (by omega)
          · rw [upd_same, accK_put h3]
          · rw [List.length_append]
            exact Nat.succ_le_succ hal
          · intro pz' hpz
            rcases List.mem_append.mp hpz with hm | hm
            · exact haw pz' hm
            · rw [List.mem_singleton.mp hm]
              exact h2
        | none =>
          rw [chg_bad ho] at hcg
          rcases h with ⟨acc', h1, _⟩ | ⟨i', e', h1, h2, q⟩
          · rw [h1] at hcg
            cases hcg
          · rw [h1] at hcg
            cases hcg
            rw [hu] at h2
            cases h2
            have thr' := thr s1 q
            cases hg : goodC c with
            | false => exact iteT ⟨_, rfl, thr'⟩
            | true =>
              obtain ⟨p, z, rfl⟩ : ∃ p z, c = some (some p, some z) := by
                cases c with
                | none => cases hg
                | some ab =>
                  obtain ⟨a, b⟩ := ab
                  cases a <;> cases b <;> first | exact ⟨_, _, rfl⟩ | cases hg
              obtain ⟨q0, x1, y1, rfl, hq, hx1, hy1⟩ := hat
              obtain rfl : x1 = .str p := hx1
              refine iteF ⟨_, rfl, q0, _, 0, _, rfl, rfl, hq, atI_nat (j := 0) rfl, _, rfl, dw, _, rfl, DGet.k (k := Sum.inr p) hd1, _, rfl, ?_⟩
              have hm : p ∈ acc.map (·.1) := by
                refine Classical.byContradiction fun hn => ?_
                have ho : (if goodC (some (some p, some z)) = true ∧ p ∉ acc.map (·.1) then some (p, z) else none) = none := ho
                rw [if_pos ⟨hg, hn⟩] at ho
                cases ho
              rw [accK_get, decide_eq_true hm]
              exact iteT ⟨_, rfl, thr'⟩
      · rintro σ H1 ⟨v3, acc, rfl, s1, hd1, hal, haw, hcg⟩
        rw [List.drop_of_length_le (by omega)] at hcg
        have hcg : chg cs [] = .inr acc := hcg
        rcases h with ⟨acc', h1, q⟩ | ⟨i', e', h1, _, _⟩
        · rw [hcg] at h1
          cases h1
          refine ⟨D, prts, rfl, S.d, fun C nC => ?_⟩
          have nC0 : H C = none := none_of s1 nC
          have hCw : dw ≠ C := ne_of_none hd1 nC
          refine dc_it (walk_w (ks := prts)) (fun i H' => Same H H' ∧ H' dw = some (.dK (accK acc)) ∧ H' C = some (.dK (ovK wd acc (prts.take i)))) ⟨s1.trans (same_new nC), by rw [upd_ne hCw]; exact hd1, by rw [List.take_zero]; exact upd_same⟩ (fun _ _ _ _ => trivial) ?_ ?_
          · rintro i y H2 H3 hi ⟨s2, hd2, hC2⟩ ⟨rfl, k, hk, rfl⟩
            have hkm : k ∈ prts := List.mem_of_getElem? hk
            refine ⟨rfl, ?_⟩
            unfold tYes
            refine iteT ⟨_, rfl, _, rfl, dw, rfl, .inl ⟨_, .inl hd2⟩, _, rfl, _, rfl, x, CB, dx, _, _, rfl, s2 _ _ hx, B.cl, B.nC, rfl, _, rfl, d, _, rfl, (Wds.get wd hkm) ▸ DGet.k (k := Sum.inr k) (s2 _ _ hd), _, DGet.k (k := Sum.inr k) hd2, ?_⟩
            rw [accK_val]
            have hnew : k ∉ prts.take i := by
              intro hm
              obtain ⟨m, hm1⟩ := List.mem_iff_getElem?.mp hm
              rw [List.getElem?_take] at hm1
              split at hm1
              · have hnd : prts.Nodup := by decide +kernel
                have := (List.getElem?_inj (List.getElem?_eq_some_iff.mp hm1).1 hnd).mp (hm1.trans hk.symm)
                omega
              · cases hm1
            refine ⟨_, .inr k, rfl, hC2, ?_, same_upd s2 nC0, by rw [upd_ne hCw]; exact hd2, ?_⟩
            · unfold ovK
              rw [List.length_map, List.length_take]
              exact small5 (by have : prts.length = 5 := rfl; omega)
            · rw [upd_same, ovK_put hnew, List.take_add_one, hk]
              rfl
          · rintro H2 ⟨s2, hd2, hC2⟩
            have hC2 : H2 C = some (.dK (ov wd acc).kvs) := hC2
            refine ⟨_, rfl, C, _, rfl, hC2, rfl, fun x' dx' nx ndx ne => ?_⟩
            refine ⟨x', dx', ov wd acc, rfl, upd_same, ov_ok hok haw, fun d' nd => ⟨rfl, q x' d' _ (none_of s2 nx) ?_ ?_ ⟨dx', upd_same, ?_⟩⟩⟩
            · rw [upd_ne (show d' ≠ x' from fun e => by rw [e, upd_same] at nd; cases nd)] at nd
              by_cases e : d' = dx'
              · rw [e, upd_same] at nd
                cases nd
              · rw [upd_ne e] at nd
                exact none_of s2 nd
            · have nd1 : H2 d' = none := by
                rw [upd_ne (show d' ≠ x' from fun e => by rw [e, upd_same] at nd; cases nd)] at nd
                by_cases e : d' = dx'
                · rw [e, upd_same] at nd
                  cases nd
                · rw [upd_ne e] at nd
                  exact nd
              refine s2.trans fun b o e => ?_
              rw [upd_ne (ne_of_none e nx), upd_ne (ne_of_none e nd1), upd_ne (ne_of_none e nx), upd_ne (ne_of_none e ndx)]
              exact e
            · rw [upd_ne (show d' ≠ x' from fun e => by rw [e, upd_same] at nd; cases nd), upd_same]
        · rw [hcg] at h1
          cases h1
    · exact ⟨_, rfl, _, _, _, _, false, rfl, .ty "list", ty, kit_ty kt, false, rfl, iteT ⟨by decide, raise_err q⟩⟩
end
end K1
namespace K1
open PySem PySem.Spec PyProof.Rows L2 Bk
/-- at qs: pairs of texts -/
def PrT (H : Hp) (qs : List Addr) (ps : List (Str × Str)) : Prop := qs.length = ps.length ∧ ∀ (i : Nat) (q : Addr), qs[i]? = some q → ∃ p, ps[i]? = some p ∧ H q = some (.tup [.str p.1, .str p.2])
theorem PrT.same {H H' : Hp} {qs : List Addr} {ps : List (Str × Str)} (h : PrT H qs ps) (s : Same H H') : PrT H' qs ps := ⟨h.1, fun i q e => let ⟨p, a, b⟩ := h.2 i q e; ⟨p, a, s _ _ b⟩⟩
theorem PrT.app {H : Hp} {qs : List Addr} {ps : List (Str × Str)} {q : Addr} {p : Str × Str} (h : PrT H qs ps) (e : H q = some (.tup [.str p.1, .str p.2])) : PrT H (qs ++ [q]) (ps ++ [p]) := by
  refine ⟨by rw [List.length_append, List.length_append, h.1]; rfl, fun i q' e' => ?_⟩
  by_cases hi : i < qs.length
  · rw [List.getElem?_append_left hi] at e'
    obtain ⟨p', a, b⟩ := h.2 i q' e'
    exact ⟨p', by rw [List.getElem?_append_left (by rw [← h.1]; exact hi)]; exact a, b⟩
  · rw [List.getElem?_append_right (by omega)] at e'
    have hz : i - qs.length = 0 := by
      cases hk : i - qs.length with
      | zero => rfl
      | succ k =>
        rw [hk] at e'
        simp at e'
    rw [hz] at e'
    have e2 : q = q' := by simpa using e'
    subst e2
    refine ⟨p, ?_, e⟩
    rw [List.getElem?_append_right (by rw [← h.1]; omega), ← h.1, hz]
    rfl
theorem PrT.lst {H : Hp} {qs : List Addr} {ps : List (Str × Str)} {D : Addr} {xs ys : List V} (h : PrT H qs ps) (e : H D = some (.lst xs)) : PrT (upd H D (.lst ys)) qs ps := ⟨h.1, fun i q eq => let ⟨p, a, b⟩ := h.2 i q eq; ⟨p, a, by rw [upd_ne (fun z => by rw [z, e] at b; cases b)]; exact b⟩⟩
def spDiff (CB : Addr) : Sp := fun vs H Q _ => ∃ x d wd y d' wv, vs = [.ref x, .ref y] ∧ BookD CB H x d wd ∧ BookD CB H y d' wv ∧ ∀ (l : Addr) (qs : List Addr) (H' : Hp), H l = none → Same H H' → H' l = some (.lst (qs.map V.ref)) → PrT H' qs (diffL wd wv prts) → Q (.ref l) H'
theorem diff_step {wd wv : Wds} {i : Nat} {k : Str} (h : prts[i]? = some k) : diffL wd wv (prts.take (i + 1)) = diffL wd wv (prts.take i) ++ (if wd.at k = wv.at k then [] else [(k, wv.at k)]) := by
  unfold diffL
  rw [List.take_add_one, h, Option.toList_some, List.filter_append, List.map_append]
  congr 1
  by_cases e : wd.at k = wv.at k
  · rw [if_pos e, List.filter_cons_of_neg (by rw [decide_eq_true e]; exact Bool.false_ne_true)]
    rfl
  · rw [if_neg e, List.filter_cons_of_pos (by rw [decide_eq_false e]; rfl)]
    rfl
section
variable {P : Program} {w : World} {K : PySem.W.Frag} {mg : Str → Option Value} {base : Heap} {CB CE D fG : Addr}
theorem ok_diff {f : Addr} {fd fdG : FuncData} (F : Fun K "difference" "Book.difference" mDiff f fd) (B : BF K mg CB) (S : SWF K mg w D) (SG : Ow.Spc K CB fG "__getitem__") (hfn : PySem.W.fnIn K fG = true) (bG : Binds K fdG ["self", "part"] []) (GG : FnOk P w K mg base (CX P w) 3 fG fdG ["self", "part"] (spItem CB CE)) :
    FnOk P w K mg base CX0 5 f fd ["self", "other"] (spDiff CB) := by
  refine F.ok scDiff (fun vs H Q E h => ?_) (fun cdv A outer s H vs Q E hr h => ?_)
  · obtain ⟨x, d, wd, y, d', wv, rfl, _⟩ := h
    rfl
  · obtain ⟨x, d, wd, y, d', wv, rfl, ⟨dx, hx, hd⟩, ⟨dy, hy, hd'⟩, q⟩ := h
    have hu := hu_of hr
    refine ⟨_, pss_one (ps_ret (pe_lc (own := [("part", 2)]) (g := gName 2) (tt := tTest (tOp rNe (tDGet (tFld K (tVar 0) "chosen") (tVar 2)) (Ow.tSubO CB (spItem CB CE) E0 (tVar 1) (tVar 2)))) (te := tTup (tCons (tVar 2) (tCons (Ow.tSubO CB (spItem CB CE) E0 (tVar 1) (tVar 2)) tNil))) (by rfl) scDiff.nd (pi_wkeys (pe_glob (v := .ref D) (by rfl) S.g rfl)) (blkOk_by (own := [("part", 2)]) (N := ["self", "other", "part"]) (sc := defScope mDiff) (by decide +kernel)) (fun _ _ _ _ _ => pg_name (i := 2) scDiff.nd rfl (Or.inl rfl))
      (fun _ _ _ _ _ => by exact pts_one (pt_cmpR op_ne (pe_dget hu (pe_fld (pv 0) rfl) (pv 2) (fun _ _ => rfl)) (Ow.pe_subO SG hfn GG hr bG passL (pv 1) (pv 2)) (nomark _)))
      (fun _ _ _ _ _ => by exact pe_tup (pa_cons (pv 2) (pa_cons (Ow.pe_subO SG hfn GG hr bG passL (pv 1) (pv 2)) pa_nil))))), ?_⟩
    refine ⟨D, prts, rfl, S.d, fun L nL => lc_it (walk_w (ks := prts)) (fun i H' => Same H H' ∧ ∃ qs : List Addr, H' L = some (.lst (qs.map V.ref)) ∧ PrT H' qs (diffL wd wv (prts.take i))) ⟨same_new nL, [], upd_same, rfl, fun i q e => by simp at e⟩ (fun _ _ _ _ => trivial) ?_ ?_⟩
    · rintro i u H1 H2 hi ⟨s1, qs, hL, hq⟩ ⟨rfl, k, hk, rfl⟩
      have hkm : k ∈ prts := List.mem_of_getElem? hk
      refine ⟨rfl, ?_⟩
      have step := diff_step (wd := wd) (wv := wv) hk
      refine ⟨_, rfl, x, CB, dx, _, _, rfl, s1 _ _ hx, B.cl, B.nC, rfl, _, rfl, d, _, rfl, (Wds.get wd hkm) ▸ DGet.k (k := Sum.inr k) (s1 _ _ hd), ?_⟩
      refine ⟨_, rfl, _, rfl, y, dy, _, rfl, s1 _ _ hy, y, d', wv, .str k, some k, rfl, ⟨dy, s1 _ _ hy, s1 _ _ hd'⟩, rfl, .inl ⟨k, rfl, hkm, rfl, _, rfl, ?_⟩⟩
      rw [dec_str]
      by_cases e : wd.at k = wv.at k
      · rw [beq_iff_eq.mpr e]
        rw [if_pos e, List.append_nil] at step
        exact iteF ⟨s1, qs, hL, by rw [step]; exact hq⟩
      · rw [beq_eq_false_iff_ne.mpr e]
        rw [if_neg e] at step
        refine iteT ⟨_, rfl, _, rfl, _, rfl, y, dy, _, rfl, s1 _ _ hy, y, d', wv, .str k, some k, rfl, ⟨dy, s1 _ _ hy, s1 _ _ hd'⟩, rfl, .inl ⟨k, rfl, hkm, by show 2 ≤ sizeLine; decide, fun t nt => ?_⟩⟩
        have st := same_new (o := .tup [.str k, .str (wv.at k)]) nt
        have hL2 := st _ _ hL
        refine ⟨_, hL2, ?_, same_upd (s1.trans st) nL, qs ++ [t], by rw [upd_same, List.map_append]; rfl, ?_⟩
        · rw [List.length_map, hq.1]
          unfold diffL
          rw [List.length_map]
          have h1 : ((prts.take i).filter fun p => !decide (wd.at p = wv.at p)).length ≤ (prts.take i).length := List.length_filter_le _ _
          have h2 : (prts.take i).length ≤ 5 := by rw [List.length_take]; exact Nat.min_le_right _ _
          exact small5 (by omega)
        · rw [step]
          exact ((hq.same st).app (p := (k, wv.at k)) upd_same).lst hL2
    · rintro H1 ⟨s1, qs, hL, hq⟩
      have hq : PrT H1 qs (diffL wd wv prts) := hq
      exact q L qs H1 nL s1 hL hq
end
end K1
namespace K1
open PySem PySem.Spec PyProof.Rows L2
theorem scPool : FnScope ["_law_script", "_law_k", "_law_cell", "_law_great", "_law_seed"] ["_law_script", "_law_k"] (defScope sPool) := ⟨rfl, rfl, rfl, by decide +kernel, rfl, by decide +kernel, by decide +kernel⟩
theorem scDraw : FnScope ["_law_pool_here", "_law_many", "_law_digit"] ["_law_pool_here", "_law_many"] (defScope sDraw) := ⟨rfl, rfl, rfl, by decide +kernel, rfl, by decide +kernel, by decide +kernel⟩
theorem scPick : FnScope ["_law_pool_here", "_law_items"] ["_law_pool_here", "_law_items"] (defScope sPick) := ⟨rfl, rfl, rfl, by decide +kernel, rfl, by decide +kernel, by decide +kernel⟩
/-- a pool stands at p -/
def Pool (H : Hp) (p : Addr) : Prop := ∃ g s : Int, H p = some (.lst [.int g, .int s]) ∧ 0 ≤ s ∧ s < 2147483647
/-- all but p is as it was -/
def KeepP (p : Addr) (H H' : Hp) : Prop := ∀ b o, b ≠ p → H b = some o → H' b = some o
theorem KeepP.refl (p : Addr) (H : Hp) : KeepP p H H := fun _ _ _ h => h
theorem KeepP.trans {p : Addr} {H H1 H2 : Hp} (a : KeepP p H H1) (b : KeepP p H1 H2) : KeepP p H H2 := fun c o n h => b c o n (a c o n h)
theorem KeepP.upd {p : Addr} {H : Hp} {o : HO} : KeepP p H (upd H p o) := fun b _ n h => by
  rw [upd_ne n]
  exact h
theorem KeepP.new {p q : Addr} {H : Hp} {o : HO} (h : H q = none) : KeepP p H (L2.upd H q o) := fun b _ n e => by
  rw [upd_ne (ne_of_none e h)]
  exact e
theorem KeepP.seq {K : PySem.W.Frag} {p a : Addr} {H H' : Hp} {xs : List V} (k : KeepP p H H') (n : a ≠ p) (h : SqL K H a xs) : SqL K H' a xs := by
  rcases h with (h | ⟨o, h⟩) | h
  · exact .inl (.inl (k _ _ n h))
  · exact .inl (.inr ⟨o, k _ _ n h⟩)
  · exact .inr h
theorem Pool.new {p q : Addr} {H : Hp} {o : HO} (h : Pool H p) (n : H q = none) : Pool (upd H q o) p := by
  obtain ⟨g, s, e, r⟩ := h
  exact ⟨g, s, by rw [upd_ne (ne_of_none e n)]; exact e, r⟩
def spPool (K : PySem.W.Frag) : Sp := fun vs H Q _ => ∃ (a : Addr) (ns : List Int) (k : Nat), vs = [.ref a, .int (k : Int)] ∧ SqL K H a (ns.map V.int) ∧ k < 100 ∧
  ∀ (p : Addr) (g s : Int), 0 ≤ s → s < 2147483647 → H p = none → Q (.ref p) (upd H p (.lst [.int g, .int s]))
def spDraw : Sp := fun vs H Q _ => ∃ (p : Addr) (m : Int), vs = [.ref p, .int m] ∧ Pool H p ∧ 0 < m ∧ m < 1073741824 ∧ ∀ (d : Int) (H' : Hp), 0 ≤ d → d < m → Pool H' p → KeepP p H H' → Q (.int d) H'
def spPick (K : PySem.W.Frag) : Sp := fun vs H Q _ => ∃ (p a : Addr) (xs : List V), vs = [.ref p, .ref a] ∧ Pool H p ∧ a ≠ p ∧ SqL K H a xs ∧ 0 < xs.length ∧ xs.length < 1000 ∧
  ∀ (x : V) (H' : Hp), x ∈ xs → Pool H' p → KeepP p H H' → Q x H'
section
variable {P : Program} {w : World} {K : PySem.W.Frag} {mg : Str → Option Value} {base : Heap}
theorem ok_pool {f : Addr} {fd : FuncData} (F : Fun K "_law_pool" "_law_pool" sPool f fd) (T : Tx mg) : FnOk P w K mg base CX0 1 f fd ["_law_script", "_law_k"] (spPool K) := by
  refine F.ok scPool (fun vs H Q E h => ?_) (fun cdv A outer s H vs Q E hr h => ?_)
  · obtain ⟨a, ns, k, rfl, _⟩ := h
    rfl
  · obtain ⟨a, ns, k, rfl, hS, hk, q⟩ := h
    refine ⟨_, pss_cons (ps_set (i := 2) scPool.nd rfl (Or.inl rfl) pe_int)
      (pss_cons (ps_if (pt_cmpR op_lt (pv 1) (pe_callB call_len_seq (by rfl) T.len PySem.boot_len (pa_cons (pv 0) pa_nil)) (nomark _)) (pss_one (ps_set (i := 2) scPool.nd rfl (Or.inl rfl) (pe_ix ix_list (pv 0) (pv 1) (fun _ _ => rfl)))) pss_nil)
      (pss_cons (ps_set (i := 3) scPool.nd rfl (Or.inl rfl) (pe_callTy call_int1 (by rfl) T.int (by decide +kernel) (pa_cons (pv 2) pa_nil)))
      (pss_cons (ps_if (pt_cmpR op_lt (pv 3) (pe_op op_pow pe_int pe_int) (nomark _)) (pss_one (ps_set (i := 3) scPool.nd rfl (Or.inl rfl) pe_int)) pss_nil)
      (pss_cons (ps_set (i := 4) scPool.nd rfl (Or.inl rfl) (pe_op op_mod (pe_op op_pow (pe_op op_add (pe_op op_add (pe_op op_add (pe_op op_mod (pe_callTy call_int1 (by rfl) T.int (by decide +kernel) (pa_cons (pv 2) pa_nil)) pe_int) (pe_op op_mul (pe_op op_mul pe_int (pv 1)) (pv 1))) (pe_op op_mul pe_int (pv 1))) pe_int) pe_int) pe_int))
      (pss_one (ps_ret (pe_lst (pa_cons (pv 3) (pa_cons (pe_callTy call_int1 (by rfl) T.int (by decide +kernel) (pa_cons (pv 4) pa_nil)) pa_nil))))))))), ?_⟩
    have fin : ∀ (c : Int) (Q' : V → Hp → Prop), True := fun _ _ => trivial
    refine ⟨_, rfl, _, rfl, a, _, rfl, .inl hS, _, _, rfl, rfl, _, rfl, ?_⟩
    refine ite2 (fun hc => ?_) (fun hc => ?_)
    · have hc' := of_decide_eq_true hc
      rw [List.length_map] at hc'
      have hkl : k < ns.length := by omega
      refine ⟨_, rfl, _, rfl, a, ns.map V.int, _, V.int ns[k], rfl, rfl, hS, atI_nat (by rw [List.getElem?_map, List.getElem?_eq_getElem hkl]; rfl), ?_⟩
      refine ⟨_, rfl, .inl ⟨_, rfl, ?_⟩⟩
      refine ⟨_, rfl, 10, 18, rfl, rfl, ⟨by decide, by decide, by decide⟩, _, _, rfl, rfl, _, rfl, ?_⟩
      refine ite2 (fun hg => ?_) (fun hg => ?_)
      all_goals
        refine ⟨_, rfl, .inl ⟨_, rfl, _, _, rfl, rfl, (by show (0 : Int) < _; decide), ?_⟩⟩
        refine ⟨_, rfl, _, _, rfl, rfl, .inl ⟨by decide, by decide⟩, _, rfl, _, _, rfl, rfl, .inr ⟨by omega, by omega⟩, _, _, rfl, rfl, ?_⟩
        refine ⟨_, rfl, _, _, rfl, rfl, .inl ⟨by decide, by decide⟩, _, _, rfl, rfl, _, _, rfl, rfl, ?_⟩
        refine ⟨_, _, rfl, rfl, ⟨by decide, by decide, ?_⟩, _, _, rfl, rfl, (by show (0 : Int) < _; decide), ?_⟩
        · have h1 := Int.emod_nonneg ns[k] (by decide : (2147483629 : Int) ≠ 0)
          have h2 := Int.emod_lt_of_pos ns[k] (by decide : (0 : Int) < 2147483629)
          have h3 : (k : Int) * k ≤ 100 * 100 := Int.mul_le_mul (by omega) (by omega) (by omega) (by omega)
          have h4 : 0 ≤ (k : Int) * k := Int.mul_nonneg (by omega) (by omega)
          have h5 : (104729 : Int) * k * k = 104729 * ((k : Int) * k) := Int.mul_assoc _ _ _
          omega
        · refine ⟨_, rfl, _, rfl, .inl ⟨_, rfl, by show 2 ≤ sizeLine; decide, fun p np => ?_⟩⟩
          exact q p _ _ (Int.emod_nonneg _ (by decide)) (Int.emod_lt_of_pos _ (by decide)) np
    · refine ⟨_, rfl, .inl ⟨_, rfl, ?_⟩⟩
      refine ⟨_, rfl, 10, 18, rfl, rfl, ⟨by decide, by decide, by decide⟩, _, _, rfl, rfl, _, rfl, ?_⟩
      refine ite2 (fun hg => ?_) (fun hg => ?_)
      all_goals
        refine ⟨_, rfl, .inl ⟨_, rfl, _, _, rfl, rfl, (by show (0 : Int) < _; decide), ?_⟩⟩
        refine ⟨_, rfl, _, _, rfl, rfl, .inl ⟨by decide, by decide⟩, _, rfl, _, _, rfl, rfl, .inr ⟨by omega, by omega⟩, _, _, rfl, rfl, ?_⟩
        refine ⟨_, rfl, _, _, rfl, rfl, .inl ⟨by decide, by decide⟩, _, _, rfl, rfl, _, _, rfl, rfl, ?_⟩
        refine ⟨_, _, rfl, rfl, ⟨by decide, by decide, ?_⟩, _, _, rfl, rfl, (by show (0 : Int) < _; decide), ?_⟩
        · have h1 := Int.emod_nonneg 0 (by decide : (2147483629 : Int) ≠ 0)
          have h2 := Int.emod_lt_of_pos 0 (by decide : (0 : Int) < 2147483629)
          have h3 : (k : Int) * k ≤ 100 * 100 := Int.mul_le_mul (by omega) (by omega) (by omega) (by omega)
          have h4 : 0 ≤ (k : Int) * k := Int.mul_nonneg (by omega) (by omega)
          have h5 : (104729 : Int) * k * k = 104729 * ((k : Int) * k) := Int.mul_assoc _ _ _
          omega
        · refine ⟨_, rfl, _, rfl, .inl ⟨_, rfl, by show 2 ≤ sizeLine; decide, fun p np => ?_⟩⟩
          exact q p _ _ (Int.emod_nonneg _ (by decide)) (Int.emod_lt_of_pos _ (by decide)) np
theorem ok_draw {f : Addr} {fd : FuncData} (F : Fun K "_law_draw" "_law_draw" sDraw f fd) (T : Tx mg) : FnOk P w K mg base CX0 1 f fd ["_law_pool_here", "_law_many"] spDraw := by
  refine F.ok scDraw (fun vs H Q E h => ?_) (fun cdv A outer s H vs Q E hr h => ?_)
  · obtain ⟨p, m, rfl, _⟩ := h
    rfl
  · obtain ⟨p, m, rfl, ⟨g, z, hp, z0, z1⟩, m0, m1, q⟩ := h
    refine ⟨_, pss_cons (ps_if (pt_cmpR op_gt (pe_ix ix_list (pv 0) pe_int (fun _ _ => rfl)) pe_int (nomark _))
        (pss_cons (ps_set (i := 2) scDraw.nd rfl (Or.inl rfl) (pe_op op_mod (pe_callTy call_int1 (by rfl) T.int (by decide +kernel) (pa_cons (pe_ix ix_list (pv 0) pe_int (fun _ _ => rfl)) pa_nil)) (pv 1)))
        (pss_cons (ps_asg (pe_op op_fdiv (pe_callTy call_int1 (by rfl) T.int (by decide +kernel) (pa_cons (pe_ix ix_list (pv 0) pe_int (fun _ _ => rfl)) pa_nil)) (pv 1)) (pg_sub (pv 0) pe_int set_list))
        (pss_one (ps_ret (pv 2))))) pss_nil)
      (pss_cons (ps_asg (pe_op op_mod (pe_callTy call_int1 (by rfl) T.int (by decide +kernel) (pa_cons (pe_op op_add (pe_op op_mul (pe_ix ix_list (pv 0) pe_int (fun _ _ => rfl)) pe_int) pe_int) pa_nil)) pe_int) (pg_sub (pv 0) pe_int set_list))
      (pss_one (ps_ret (pe_op op_mod (pe_op op_fdiv (pe_op op_mod (pe_callTy call_int1 (by rfl) T.int (by decide +kernel) (pa_cons (pe_op op_mul (pe_ix ix_list (pv 0) pe_int (fun _ _ => rfl)) (pe_ix ix_list (pv 0) pe_int (fun _ _ => rfl))) pa_nil)) pe_int) pe_int) (pv 1))))), ?_⟩
    refine ⟨_, rfl, p, _, 0, .int g, rfl, rfl, SqL.of hp, atI_nat (j := 0) rfl, _, _, rfl, rfl, _, rfl, ?_⟩
    refine ite2 (fun c => ?_) (fun c => ?_)
    · refine ⟨_, rfl, p, _, 0, .int g, rfl, rfl, SqL.of hp, atI_nat (j := 0) rfl, .inl ⟨_, rfl, _, rfl, _, _, rfl, rfl, m0, ?_⟩⟩
      refine ⟨_, rfl, p, _, 0, .int g, rfl, rfl, SqL.of hp, atI_nat (j := 0) rfl, .inl ⟨_, rfl, _, rfl, _, _, rfl, rfl, ⟨m0, m1⟩, ?_⟩⟩
      refine ⟨_, rfl, p, _, 0, 0, rfl, rfl, hp, rfl, ?_⟩
      refine ⟨_, rfl, q _ _ (Int.emod_nonneg _ (by omega)) (Int.emod_lt_of_pos _ m0) ⟨_, z, upd_same, z0, z1⟩ KeepP.upd⟩
    · refine ⟨_, rfl, p, _, 1, .int z, rfl, rfl, SqL.of hp, atI_nat (j := 1) rfl, _, _, rfl, rfl, .inl ⟨by omega, by omega⟩, _, _, rfl, rfl, .inl ⟨_, rfl, _, _, rfl, rfl, (by show (0 : Int) < _; decide), ?_⟩⟩
      refine ⟨_, rfl, p, _, 1, 1, rfl, rfl, hp, rfl, ?_⟩
      have s0 := Int.emod_nonneg (z * 48271 + 11) (by decide : (2147483647 : Int) ≠ 0)
      have s1 := Int.emod_lt_of_pos (z * 48271 + 11) (by decide : (0 : Int) < 2147483647)
      refine ⟨_, rfl, p, _, 1, _, rfl, rfl, SqL.of upd_same, atI_nat (j := 1) rfl, _, rfl, p, _, 1, _, rfl, rfl, SqL.of upd_same, atI_nat (j := 1) rfl, _, _, rfl, rfl, .inl ⟨by omega, by omega⟩, .inl ⟨_, rfl, _, _, rfl, rfl, (by show (0 : Int) < _; decide), _, _, rfl, rfl, ⟨by decide, by decide⟩, _, rfl, _, _, rfl, rfl, m0, ?_⟩⟩
      exact q _ _ (Int.emod_nonneg _ (by omega)) (Int.emod_lt_of_pos _ m0) ⟨g, _, upd_same, s0, s1⟩ KeepP.upd
theorem ok_pick {f fD : Addr} {fd fdD : FuncData} (F : Fun K "_law_pick" "_law_pick" sPick f fd) (T : Tx mg) (mD : mg "_law_draw" = some (.ref fD)) (kD : PySem.W.keepIn K (.ref fD) = true) (bD : Binds K fdD ["_law_pool_here", "_law_many"] []) (GD : FnOk P w K mg base CX0 1 fD fdD ["_law_pool_here", "_law_many"] spDraw) : FnOk P w K mg base CX0 2 f fd ["_law_pool_here", "_law_items"] (spPick K) := by
  refine F.ok scPick (fun vs H Q E h => ?_) (fun cdv A outer s H vs Q E hr h => ?_)
  · obtain ⟨p, a, xs, rfl, _⟩ := h
    rfl
  · obtain ⟨p, a, xs, rfl, hp, np, hS, l0, l1, q⟩ := h
    refine ⟨_, pss_one (ps_ret (pe_ix ix_list (pv 1) (pe_call GD hr (by rfl) mD kD bD .nil pass0 (pa_cons (pv 0) (pa_cons (pe_callB call_len_seq (by rfl) T.len PySem.boot_len (pa_cons (pv 1) pa_nil)) pa_nil))) (fun _ _ => rfl))), ?_⟩
    refine ⟨_, rfl, _, rfl, _, rfl, a, _, rfl, .inl hS, p, _, rfl, hp, by omega, by omega, fun d H' d0 d1 hp' kp => ?_⟩
    obtain ⟨j, rfl⟩ : ∃ j : Nat, d = (j : Int) := ⟨d.toNat, by omega⟩
    have hj : j < xs.length := by omega
    refine ⟨a, xs, (j : Int), xs[j], rfl, rfl, kp.seq np hS, atI_nat (List.getElem?_eq_getElem hj), q _ _ (List.getElem_mem hj) hp' kp⟩
end
end K1
namespace K1
open PySem PySem.Spec PyProof.Rows L2 Bk
theorem kv_cons {k : Key} {z : Str} {kvs : List (Key × V)} {va : List (Key × Value)} (h : KV ((k, V.str z) :: kvs) va) : ∃ t va', va = (k, Value.str z t) :: va' ∧ KV kvs va' := by
  cases h with
  | @cons _ b _ vs r h =>
    obtain ⟨b1, b2⟩ := b
    obtain ⟨h1, t, h2⟩ := r
    have h1 : k = b1 := h1
    have h2 : b2 = .str z t := h2
    subst h1 h2
    exact ⟨t, vs, rfl, h⟩
theorem kv_nil {va : List (Key × Value)} (h : KV ([] : List (Key × V)) va) : va = [] := by
  cases h
  rfl
end K1
namespace K1
open PySem PySem.Spec PyProof.Rows L2 Bk
theorem kv_wds {wd : Wds} {va : List (Key × Value)} (h : KV wd.kvs va) : ∃ p1 p2 p3 p4 p5 : Tok, va = [(.inr "owner", .str wd.o p1), (.inr "look", .str wd.l p2), (.inr "choose", .str wd.c p3), (.inr "wants", .str wd.n p4), (.inr "early", .str wd.e p5)] := by
  obtain ⟨t1, v1, rfl, g1⟩ := kv_cons h
  obtain ⟨t2, v2, rfl, g2⟩ := kv_cons g1
  obtain ⟨t3, v3, rfl, g3⟩ := kv_cons g2
  obtain ⟨t4, v4, rfl, g4⟩ := kv_cons g3
  obtain ⟨t5, v5, rfl, g5⟩ := kv_cons g4
  rw [kv_nil g5]
  exact ⟨t1, t2, t3, t4, t5, rfl⟩
theorem at_pos {κ : Type} [DecidableEq κ] {p : κ × Value} {r : List (κ × Value)} {k : κ} (e : p.1 = k) : valueAt (p :: r) k = some p.2 := by
  unfold valueAt
  rw [List.find?_cons_of_pos (by exact decide_eq_true e)]
  rfl
theorem at_neg {κ : Type} [DecidableEq κ] {p : κ × Value} {r : List (κ × Value)} {k : κ} (e : ¬ p.1 = k) : valueAt (p :: r) k = valueAt r k := by
  unfold valueAt
  rw [List.find?_cons_of_neg (by intro h; exact e (of_decide_eq_true h))]
theorem hit_str {A : Around} {s : Shared} {kb : List (Key × Value)} {k : Key} {a b : Str} {t u : Tok} {r : List (Key × Value)} {c : Bool} (h : valueAt kb k = some (.str b u)) (hr : PySem.W.KeqHits A s kb r c) : PySem.W.KeqHits A s kb ((k, .str a t) :: r) ((a == b) && c) := .hit h (SeqAt.EqAt.str_str a t b u) hr
end K1
namespace K1
open PySem PySem.Spec PyProof.Rows L2 Bk
/-- the words of two books are the same -/
def sameW (wd wv : Wds) : Bool := (wd.o == wv.o) && ((wd.l == wv.l) && ((wd.c == wv.c) && ((wd.n == wv.n) && ((wd.e == wv.e) && true))))
theorem hits_w {A : Around} {s : Shared} {wd wv : Wds} {p1 p2 p3 p4 p5 q1 q2 q3 q4 q5 : Tok} : PySem.W.KeqHits A s [((.inr "owner" : Key), Value.str wv.o q1), (.inr "look", .str wv.l q2), (.inr "choose", .str wv.c q3), (.inr "wants", .str wv.n q4), (.inr "early", .str wv.e q5)]
    [((.inr "owner" : Key), Value.str wd.o p1), (.inr "look", .str wd.l p2), (.inr "choose", .str wd.c p3), (.inr "wants", .str wd.n p4), (.inr "early", .str wd.e p5)] (sameW wd wv) := by
  have n1 : ¬ ((Sum.inr "owner" : Key) = .inr "look") := by decide +kernel
  have n2 : ¬ ((Sum.inr "owner" : Key) = .inr "choose") := by decide +kernel
  have n3 : ¬ ((Sum.inr "owner" : Key) = .inr "wants") := by decide +kernel
  have n4 : ¬ ((Sum.inr "owner" : Key) = .inr "early") := by decide +kernel
  have n5 : ¬ ((Sum.inr "look" : Key) = .inr "choose") := by decide +kernel
  have n6 : ¬ ((Sum.inr "look" : Key) = .inr "wants") := by decide +kernel
  have n7 : ¬ ((Sum.inr "look" : Key) = .inr "early") := by decide +kernel
  have n8 : ¬ ((Sum.inr "choose" : Key) = .inr "wants") := by decide +kernel
  have n9 : ¬ ((Sum.inr "choose" : Key) = .inr "early") := by decide +kernel
  have n10 : ¬ ((Sum.inr "wants" : Key) = .inr "early") := by decide +kernel
  refine hit_str (u := q1) (at_pos rfl) (hit_str (u := q2) ?_ (hit_str (u := q3) ?_ (hit_str (u := q4) ?_ (hit_str (u := q5) ?_ .nil))))
  · rw [at_neg n1]
    exact at_pos rfl
  · rw [at_neg n2, at_neg n5]
    exact at_pos rfl
  · rw [at_neg n3, at_neg n6, at_neg n8]
    exact at_pos rfl
  · rw [at_neg n4, at_neg n7, at_neg n9, at_neg n10]
    exact at_pos rfl
/-- == of two dicts of words -/
def rEqW : R2 := fun x y H Q => ∃ a b wd wv, x = .ref a ∧ y = .ref b ∧ H a = some (.dK (Wds.kvs wd)) ∧ H b = some (.dK (Wds.kvs wv)) ∧ Q (.bl (sameW wd wv)) H
theorem op_eqW {X : Cx} (hu : X.A.units < cLine) : OpR X (compareOp .Eq) rEqW := by
  intro pins s σ H x y v u Q I rx ry h
  obtain ⟨a, b, wd, wv, rfl, rfl, ea, eb, q⟩ := h
  obtain rfl : v = Value.ref a := rx
  obtain rfl : u = Value.ref b := ry
  obtain ⟨_, ya, va, ra, da⟩ := dk_of I.hok ea
  obtain ⟨_, yb, vb, rb, db⟩ := dk_of I.hok eb
  obtain ⟨p1, p2, p3, p4, p5, rfl⟩ := kv_wds ra
  obtain ⟨q1, q2, q3, q4, q5, rfl⟩ := kv_wds rb
  exact PySem.W.keq_eq (knd := mixKind X.prog X.w) (r := sameW wd wv) ya yb da db hu (fun _ => hits_w) ⟨.bl (sameW wd wv), H, I, (by show Value.bool (true && sameW wd wv) = _; rw [Bool.true_and]), q⟩
end K1
namespace K1
open PySem PySem.Spec PyProof.Rows L2 Bk
theorem scMEq : FnScope ["self", "other"] ["self", "other"] (defScope mEq) := ⟨rfl, rfl, rfl, by decide +kernel, rfl, by decide +kernel, by decide +kernel⟩
def spMEq (K : PySem.W.Frag) (CB : Addr) : Sp := fun vs H Q _ => ∃ x d wd y, vs = [.ref x, y] ∧ BookD CB H x d wd ∧ ((∃ y0 d' wv, y = .ref y0 ∧ BookD CB H y0 d' wv ∧ Q (.bl (sameW wd wv)) H) ∨ (NotB K CB H y ∧ Q (.bl false) H))
section
variable {P : Program} {w : World} {K : PySem.W.Frag} {mg : Str → Option Value} {base : Heap} {CB : Addr}
theorem ok_meq {f : Addr} {fd : FuncData} (F : Fun K "__eq__" "Book.__eq__" mEq f fd) (T : Tx mg) (B : BF K mg CB) : FnOk P w K mg base CX0 1 f fd ["self", "other"] (spMEq K CB) := by
  refine F.ok scMEq (fun vs H Q E h => ?_) (fun cdv A outer s H vs Q E hr h => ?_)
  · obtain ⟨x, d, wd, y, rfl, _⟩ := h
    rfl
  · obtain ⟨x, d, wd, y, rfl, ⟨dx, hx, hd⟩, h⟩ := h
    refine ⟨_, pss_one (ps_ret (pe_and (pe_callB call_isi (by rfl) T.isi (by decide +kernel) (pa_cons (pv 1) (pa_cons (pe_glob (v := .ref CB) (by rfl) B.gB rfl) pa_nil)))
      (pe_one (pe_cmpR (op_eqW hr.units0) (pe_fld (pv 0) rfl) (pe_fld (pv 1) rfl) (nomark _))))), ?_⟩
    rcases h with ⟨y0, d', wv, rfl, ⟨dy, hy, hd'⟩, q⟩ | ⟨⟨ty, h1, h2⟩, q⟩
    · refine ⟨_, rfl, _, _, _, _, true, rfl, .own CB, .base (.ins hy B.cl B.ha B.hn B.htk B.hm), B.own, true, rfl, iteT ?_⟩
      exact ⟨_, rfl, x, CB, dx, _, _, rfl, hx, B.cl, B.nC, rfl, _, rfl, y0, CB, dy, _, _, rfl, hy, B.cl, B.nC, rfl, d, d', wd, wv, rfl, rfl, hd, hd', q⟩
    · exact ⟨_, rfl, _, _, _, _, false, rfl, .own CB, h1, h2, false, rfl, iteF q⟩
end
end K1
/-! list(d) of a written dict; o.m(e) and o[i] that may raise, in a try; == with a list on the right; calls where no guard stands. -/
namespace Bk
open PySem PySem.Spec PyProof.Rows L2
section
variable {X : Cx}
def rListW (K : PySem.W.Frag) (w : World) : List V → Hp → VK → Prop := fun xs H Q => ∃ d ks, xs = [.ref d] ∧ WD K w d ks ∧ ks.length ≤ sizeLine ∧ ∀ p, H p = none → Q (.ref p) (upd H p (.lst (ks.map V.str)))
theorem call_listW (hc : X.calm = true) : CallR X (.type "list") (rListW X.K X.w) := by
  intro pins s σ H xs us Q I r h
  obtain ⟨d, ks, rfl, ⟨es, n, D, hk⟩, hz, q⟩ := h
  obtain ⟨u, rfl, rx⟩ := r.one
  cases rx
  have ho := I.kIn _ _ D.at_
  have hs := keys_size hk
  refine PySem.W.kdl_call (kdl_raw D.low ⟨rfl, rfl, rfl⟩ rfl) (I.ok.hd hc) ho (by omega) fun h' tk acc' c' kp e it => ?_
  refine ⟨.ref s.heap.objs.size, upd H s.heap.objs.size (.lst (ks.map V.str)), I.laid kp (Nat.le_refl _) (show ObjOk X.prog X.w _ _ _ (.lst (ks.map V.str)) from ⟨by rw [List.length_map]; exact hz, acc'.toList, c', ?_, by rw [Array.toArray_toList]; exact e⟩), rfl, q _ (I.hok.fresh (Nat.le_refl _))⟩
  refine vals_of_at ((by rw [List.length_map]; exact hs.symm.trans (it.1.symm.trans (Array.length_toList).symm))) fun j x w h1 h2 => ?_
  rw [List.getElem?_map] at h1
  cases hk1 : ks[j]? with
  | none =>
    rw [hk1] at h1
    cases h1
  | some k =>
    rw [hk1] at h1
    cases h1
    obtain ⟨en, t, e1, e2⟩ := keys_at hk hk1
    obtain ⟨en', e3, rfl⟩ := it.2 j w (by rw [← Array.getElem?_toList]; exact h2)
    rw [e1] at e3
    cases e3
    exact ⟨t, e2⟩
variable {CX : CXT} {k : Nat} {f C : Addr} {fd : FuncData} {ps : List Str} {sp : Sp} {E : L2.St → XK} {x m : Str} {p pos apos : Pos} {e o a b : Expr} {es : List Expr} {ta tb : TE} {t : TA}
def tMethS (C : Addr) (m : Str) (sp : Sp) (E : L2.St → XK) (ta : TE) (t : TA) : TE := fun σ H Q => ta σ H fun x H1 => ∃ a dx fs, x = .ref a ∧ H1 a = some (.ins C dx fs) ∧ fs.lookup m = none ∧ t σ H1 fun vs H2 => sp (x :: vs) H2 Q (E σ)
theorem pe_methS {pl : Sem Bool} (he : PE X o ta) (c : Cls X.K C) (hm : Meth X.K C m f) (F : FnOk X.prog X.w X.K X.mg X.base CX k f fd ps sp) (hr : Room k X.A) (hb : Binds X.K fd ps []) (hx : ∀ σ, PassesAt CX X σ (E σ)) (ha : PA X (e :: es) t)
    (hst : starEach (e :: es) X.env = (false, eval e X.env) :: starEach es X.env := by rfl) (hpl : (backTo pos (starEach es X.env)).any (·.1) = false := by rfl)
    (ht : eval (.Call (.Attribute o m apos) (e :: es) [] pos) X.env = (do
      let ov ← eval o X.env
      standAt apos.atName
      let (f, first) ← holding [ov] (getMethod ov m pl)
      callWith pos f first (backTo pos (starEach (e :: es) X.env)) (backToKw pos (keywordEach [] X.env))) := by rfl) :
    PE X (.Call (.Attribute o m apos) (e :: es) [] pos) (tMethS C m sp E ta t) := by
  refine ⟨fun pins s σ H Q I h => ?_⟩
  refine PySem.W.methodCall_KW (pl := pl) (thn (he.run pins s σ H _ I h) fun u s1 ⟨x, H1, I1, rx, a, dx, fs, ex, ea, l, q⟩ => ?_) ht
  subst ex
  obtain rfl : u = Value.ref a := rx
  refine getmeth_ok I1 ea c hm l ?_
  refine PySem.W.callWith_K (first := [.ref a]) (h₀ := X.base) I.ok.mod.kin hm.kp (thn (ha.run pos pins s1 σ H1 _ I1 q) fun us s2 ⟨vs, H2, I2, r, q2⟩ => ⟨I2.kIn, ?_⟩) hst hpl
  exact run_fnS (us := .ref a :: us) (vs := .ref a :: vs) F hr hb (hx σ) I2 (.cons rfl r) q2
def tSubS (C : Addr) (sp : Sp) (E : L2.St → XK) (ta tb : TE) : TE := fun σ H Q => ta σ H fun x H1 => tb σ H1 fun y H2 => ∃ a dx fs, x = .ref a ∧ H2 a = some (.ins C dx fs) ∧ sp [.ref a, y] H2 Q (E σ)
theorem run_atS {B : Around} {pins : List (Addr × Obj)} {σ : L2.St} {H : Hp} {s : Shared} {Q : VK} {us : List Value} {vs : List V} (F : FnOk X.prog X.w X.K X.mg X.base CX k f fd ps sp) (hr : Room k B) (fr : B.frames = X.A.frames) (hb : Binds X.K fd ps []) (hx : PassesAt CX X σ (E σ))
    (I : Inv X pins σ H s) (r : Vals vs us) (h : sp vs H Q (E σ)) : wpAny (model X.prog X.w) B (call (.ref f) us) (EP X pins σ Q) X.xe s := by
  have e := I.env0
  have e1 : Env0 X.prog X.w X.K X.mg X.base B X.stack s H := { e with frames := fr.trans e.frames }
  have hl : us.length = ps.length := r.length.symm.trans (F.len _ _ _ _ h)
  have b1 := hb s us I.kIn ((congrArg List.length (List.append_nil us)).trans hl)
  rw [List.append_nil] at b1
  refine wpAny_call (codeAny_mono (F.run B X.stack s H ⟨us, []⟩ us vs Q (E σ) hr e1 b1 r h) fun res s2 q => ?_)
  match res, q with
  | .error er, q => exact hx pins H s er s2 I q
  | .ok (.ret _), q => exact I.after q
theorem pe_subS (S : Ow.Spc X.K C f "__getitem__") (hfn : PySem.W.fnIn X.K f = true) (F : FnOk X.prog X.w X.K X.mg X.base CX k f fd ps sp) (hr : Room (k + 1) X.A) (hb : Binds X.K fd ps []) (hx : ∀ σ, PassesAt CX X σ (E σ)) (he : PE X a ta) (hi : PE X b tb)
    (hs : ∀ x i, subscripted b true (.ref x) i = runValue (.builtin "lifetime.subscript" ⟨[.ref x, i], []⟩) := by intro _ _; with_unfolding_all rfl) : PE X (.Subscript a b pos) (tSubS C sp E ta tb) := by
  refine ⟨fun pins s σ H Q I h => Subscript_ (binT he hi I h fun v u s2 x y H2 I2 rx ry h2 => ?_)⟩
  obtain ⟨p, dx, fs, rfl, ea, h2⟩ := h2
  cases rx
  obtain ⟨od, J⟩ := Ow.inst I2 ea
  obtain ⟨m, hF⟩ := I2.fr
  exact PySem.W.sub_K hF I2.ok.mod.kin J S.at_ hfn S.fn (run_atS (us := [.ref p, u]) (vs := [.ref p, y]) F hr.in1 rfl hb (hx σ) I2 (.cons rfl (.cons ry .nil)) h2) (hs _ _)
end
section
variable {X : Cx} {CX : CXT} {k : Nat} {C f : Addr} {fd : FuncData} {ps : List Str} {sp : Sp} {E : XK}
/-- a list, where == asks for the other side -/
def rEqL (K : PySem.W.Frag) (C : Addr) (sp : Sp) (E : XK) : R2 := fun x y H Q => ∃ a dx fs b xs, x = .ref a ∧ H a = some (.ins C dx fs) ∧ y = .ref b ∧ H b = some (.lst xs) ∧ PySem.W.subIn K (.type "list") (.ref C) = some false ∧ sp [.ref a, y] H (fun v H2 => ∃ b, v = .bl b ∧ Q (.bl b) H2) E
theorem op_eqL (S : Ow.Spc X.K C f "__eq__") (F : FnOk X.prog X.w X.K X.mg X.base CX k f fd ps sp) (hr : Room k X.A) (hb : Binds X.K fd ps []) (hx : Passes CX X E) : OpR X (compareOp .Eq) (rEqL X.K C sp E) := by
  intro pins s σ H x y v u Q I rx ry h
  obtain ⟨a, dx, fs, b, xs, rfl, ea, rfl, eb, hs, h⟩ := h
  cases rx
  cases ry
  obtain ⟨od, J⟩ := Ow.inst I ea
  obtain ⟨mm, hF⟩ := I.fr
  obtain ⟨_, _, n, _, h1⟩ := (show ObjOk X.prog X.w H s.heap b (.lst xs) from I.hok b _ eb)
  have lb : PySem.W.Looks (model X.prog X.w) s.heap (typeOf (.ref b)) (.type "list") := fun _ _ _ _ k q => wpAny_typeOf_ref (k _ _ h1) q
  have nb : PySem.W.notFirst X.K C (.type "list") = true := by simp [PySem.W.notFirst, hs]
  refine PySem.W.cmp_K (op := .Eq) hr.units0 hF I.ok.mod.kin J lb nb (by rw [show (cmpInfo .Eq).2.1 = "__eq__" from rfl]; exact S.at_) S.fn (thn (Ow.run_at (vs := [.ref a, .ref b]) F hr rfl hb hx I (.cons rfl (.cons rfl .nil)) h) fun w s2 hv => ?_)
  obtain ⟨z, H2, I2, rz, c, rfl, q⟩ := hv
  cases rz
  exact ⟨.bl c, H2, I2, rfl, q⟩
end
end Bk
namespace K1
open PySem PySem.Spec PyProof.Rows L2 Bk
theorem scOwner : FnScope ["self"] ["self"] (defScope mOwner) := ⟨rfl, rfl, rfl, by decide +kernel, rfl, by decide +kernel, by decide +kernel⟩
theorem scLook : FnScope ["self"] ["self"] (defScope mLook) := ⟨rfl, rfl, rfl, by decide +kernel, rfl, by decide +kernel, by decide +kernel⟩
theorem scChoose : FnScope ["self"] ["self"] (defScope mChoose) := ⟨rfl, rfl, rfl, by decide +kernel, rfl, by decide +kernel, by decide +kernel⟩
theorem scWants : FnScope ["self"] ["self"] (defScope mWants) := ⟨rfl, rfl, rfl, by decide +kernel, rfl, by decide +kernel, by decide +kernel⟩
theorem scEarly : FnScope ["self"] ["self"] (defScope mEarly) := ⟨rfl, rfl, rfl, by decide +kernel, rfl, by decide +kernel, by decide +kernel⟩
theorem scWordsL : FnScope ["_law_pool_here", "_law_part"] ["_law_pool_here"] (defScope sWordsL) := ⟨rfl, rfl, rfl, by decide +kernel, rfl, by decide +kernel, by decide +kernel⟩
theorem scBookL : FnScope ["_law_words_here"] ["_law_words_here"] (defScope sBookL) := ⟨rfl, rfl, rfl, by decide +kernel, rfl, by decide +kernel, by decide +kernel⟩
/-- a property of a book -/
def spProp (CB : Addr) (p : Str) : Sp := fun vs H Q _ => ∃ (x : Addr) (wd : Wds), vs = [.ref x] ∧ BookAt CB H x wd ∧ Q (.str (wd.at p)) H
theorem at_look (w : Wds) : w.at "look" = w.l := by
  unfold Wds.at
  rw [if_neg (by decide +kernel), if_pos rfl]
theorem at_owner (w : Wds) : w.at "owner" = w.o := by
  unfold Wds.at
  rw [if_pos rfl]
theorem at_choose (w : Wds) : w.at "choose" = w.c := by
  unfold Wds.at
  rw [if_neg (by decide +kernel), if_neg (by decide +kernel), if_pos rfl]
theorem at_wants (w : Wds) : w.at "wants" = w.n := by
  unfold Wds.at
  rw [if_neg (by decide +kernel), if_neg (by decide +kernel), if_neg (by decide +kernel), if_pos rfl]
theorem at_early (w : Wds) : w.at "early" = w.e := by
  unfold Wds.at
  rw [if_neg (by decide +kernel), if_neg (by decide +kernel), if_neg (by decide +kernel), if_neg (by decide +kernel)]
theorem BookD.at_ {CB : Addr} {H : Hp} {x d : Addr} {w : Wds} (h : BookD CB H x d w) : BookAt CB H x w := let ⟨dx, a, b⟩ := h; ⟨dx, d, a, b⟩
theorem str_at2 {ws : List Str} {j : Nat} {x : V} (h : (ws.map V.str)[j]? = some x) : ∃ a, ws[j]? = some a ∧ x = .str a := by
  rw [List.getElem?_map] at h
  cases hp : ws[j]? with
  | none => rw [hp] at h; cases h
  | some q => rw [hp] at h; cases h; exact ⟨q, rfl, rfl⟩
def spWordsL : Sp := fun vs H Q _ => ∃ p, vs = [.ref p] ∧ Pool H p ∧ ∀ (l : Addr) (wd : Wds) (H' : Hp), wd.Ok → H l = none → Pool H' p → KeepP p H H' → H' l = some (.lst (wd.list.map V.str)) → Q (.ref l) H'
def spBookL (K : PySem.W.Frag) (CB : Addr) : Sp := fun vs H Q _ => ∃ (l : Addr) (wd : Wds), vs = [.ref l] ∧ SqL K H l (wd.list.map V.str) ∧ wd.Ok ∧ ∀ (x d : Addr) (H' : Hp), H x = none → H d = none → Same H H' → BookD CB H' x d wd → Q (.ref x) H'
/-- good words of the first parts -/
def GoodWs (ws : List Str) : Prop := ∀ (j : Nat) (z p : Str), ws[j]? = some z → prts[j]? = some p → z ∈ optW p
theorem GoodWs.wds {ws : List Str} (h : GoodWs ws) (l : ws.length = 5) : ∃ wd : Wds, wd.Ok ∧ ws = wd.list := by
  match ws, l, h with
  | [a, b, c, d, e], _, h =>
    have e1 : optW "owner" = oW := by decide +kernel
    have e2 : optW "look" = lW := by decide +kernel
    have e3 : optW "choose" = cW := by decide +kernel
    have e4 : optW "wants" = nW := by decide +kernel
    have e5 : optW "early" = eW := by decide +kernel
    refine ⟨⟨a, b, c, d, e⟩, ⟨?_, ?_, ?_, ?_, ?_⟩, rfl⟩
    · exact e1 ▸ h 0 a "owner" rfl rfl
    · exact e2 ▸ h 1 b "look" rfl rfl
    · exact e3 ▸ h 2 c "choose" rfl rfl
    · exact e4 ▸ h 3 d "wants" rfl rfl
    · exact e5 ▸ h 4 e "early" rfl rfl
theorem optW_len {p : Str} (h : p ∈ prts) : 0 < (optW p).length ∧ (optW p).length < 1000 := by
  rcases prts_cases h with rfl | rfl | rfl | rfl | rfl <;> decide +kernel
theorem KeepP.same {p : Addr} {H H' : Hp} (s : Same H H') : KeepP p H H' := fun b o _ e => s b o e
theorem Pool.same {H H' : Hp} {p : Addr} (h : Pool H p) (s : Same H H') : Pool H' p := let ⟨g, z, e, r⟩ := h; ⟨g, z, s _ _ e, r⟩
theorem same_keep {H0 H H' : Hp} {p : Addr} (s : Same H0 H) (np : H0 p = none) (k : KeepP p H H') : Same H0 H' := fun b o e => k b o (ne_of_none e np) (s b o e)
theorem ne_pool {H : Hp} {p q : Addr} (h : Pool H p) (n : H q = none) : q ≠ p := by
  obtain ⟨_, _, e, _⟩ := h
  exact (ne_of_none e n).symm
theorem none_keep {H H' : Hp} {p q : Addr} (k : KeepP p H H') (hp : Pool H p) (n : H' q = none) (hp' : Pool H' p) : H q = none := by
  cases e : H q with
  | none => rfl
  | some o =>
    have := k q o (ne_pool hp' n) e
    rw [n] at this
    cases this
def rListOf (K : PySem.W.Frag) : List V → Hp → VK → Prop := fun xs H Q => ∃ p ys, xs = [.ref p] ∧ (SqL K H p ys ∨ SqT K H p ys) ∧ ∀ l, H l = none → Q (.ref l) (upd H l (.lst ys))
def kw5' : List Str := ["owner", "look", "choose", "wants", "early"]
section
variable {P : Program} {w : World} {K : PySem.W.Frag} {mg : Str → Option Value} {base : Heap} {CB CE D : Addr}
theorem ok_owner {f : Addr} {fd : FuncData} (F : Fun K "owner" "Book.owner" mOwner f fd) (B : BF K mg CB) : FnOk P w K mg base CX0 1 f fd ["self"] (spProp CB "owner") := by
  refine F.ok scOwner (fun vs H Q E h => ?_) (fun cdv A outer s H vs Q E hr h => ?_)
  · obtain ⟨x, wd, rfl, _⟩ := h
    rfl
  · obtain ⟨x, wd, rfl, ⟨dx, d, hx, hd⟩, q⟩ := h
    refine ⟨_, pss_one (ps_ret (pe_dget (hu_of hr) (pe_fld (pv 0) rfl) pe_str (fun _ _ => rfl))), ?_⟩
    exact ⟨_, rfl, x, CB, dx, _, _, rfl, hx, B.cl, B.nC, rfl, d, _, rfl, (Wds.get wd (p := "owner") (by decide +kernel)) ▸ DGet.k (k := Sum.inr "owner") hd, q⟩
theorem ok_look {f : Addr} {fd : FuncData} (F : Fun K "look" "Book.look" mLook f fd) (B : BF K mg CB) : FnOk P w K mg base CX0 1 f fd ["self"] (spProp CB "look") := by
  refine F.ok scLook (fun vs H Q E h => ?_) (fun cdv A outer s H vs Q E hr h => ?_)
  · obtain ⟨x, wd, rfl, _⟩ := h
    rfl
  · obtain ⟨x, wd, rfl, ⟨dx, d, hx, hd⟩, q⟩ := h
    refine ⟨_, pss_one (ps_ret (pe_dget (hu_of hr) (pe_fld (pv 0) rfl) pe_str (fun _ _ => rfl))), ?_⟩
    exact ⟨_, rfl, x, CB, dx, _, _, rfl, hx, B.cl, B.nC, rfl, d, _, rfl, (Wds.get wd (p := "look") (by decide +kernel)) ▸ DGet.k (k := Sum.inr "look") hd, q⟩
theorem ok_choose {f : Addr} {fd : FuncData} (F : Fun K "choose" "Book.choose" mChoose f fd) (B : BF K mg CB) : FnOk P w K mg base CX0 1 f fd ["self"] (spProp CB "choose") := by
  refine F.ok scChoose (fun vs H Q E h => ?_) (fun cdv A outer s H vs Q E hr h => ?_)
  · obtain ⟨x, wd, rfl, _⟩ := h
    rfl
  · obtain ⟨x, wd, rfl, ⟨dx, d, hx, hd⟩, q⟩ := h
    refine ⟨_, pss_one (ps_ret (pe_dget (hu_of hr) (pe_fld (pv 0) rfl) pe_str (fun _ _ => rfl))), ?_⟩
    exact ⟨_, rfl, x, CB, dx, _, _, rfl, hx, B.cl, B.nC, rfl, d, _, rfl, (Wds.get wd (p := "choose") (by decide +kernel)) ▸ DGet.k (k := Sum.inr "choose") hd, q⟩
theorem ok_wants {f : Addr} {fd : FuncData} (F : Fun K "wants" "Book.wants" mWants f fd) (B : BF K mg CB) : FnOk P w K mg base CX0 1 f fd ["self"] (spProp CB "wants") := by
  refine F.ok scWants (fun vs H Q E h => ?_) (fun cdv A outer s H vs Q E hr h => ?_)
  · obtain ⟨x, wd, rfl, _⟩ := h
    rfl
  · obtain ⟨x, wd, rfl, ⟨dx, d, hx, hd⟩, q⟩ := h
    refine ⟨_, pss_one (ps_ret (pe_dget (hu_of hr) (pe_fld (pv 0) rfl) pe_str (fun _ _ => rfl))), ?_⟩
    exact ⟨_, rfl, x, CB, dx, _, _, rfl, hx, B.cl, B.nC, rfl, d, _, rfl, (Wds.get wd (p := "wants") (by decide +kernel)) ▸ DGet.k (k := Sum.inr "wants") hd, q⟩
theorem ok_early {f : Addr} {fd : FuncData} (F : Fun K "early" "Book.early" mEarly f fd) (B : BF K mg CB) : FnOk P w K mg base CX0 1 f fd ["self"] (spProp CB "early") := by
  refine F.ok scEarly (fun vs H Q E h => ?_) (fun cdv A outer s H vs Q E hr h => ?_)
  · obtain ⟨x, wd, rfl, _⟩ := h
    rfl
  · obtain ⟨x, wd, rfl, ⟨dx, d, hx, hd⟩, q⟩ := h
    refine ⟨_, pss_one (ps_ret (pe_dget (hu_of hr) (pe_fld (pv 0) rfl) pe_str (fun _ _ => rfl))), ?_⟩
    exact ⟨_, rfl, x, CB, dx, _, _, rfl, hx, B.cl, B.nC, rfl, d, _, rfl, (Wds.get wd (p := "early") (by decide +kernel)) ▸ DGet.k (k := Sum.inr "early") hd, q⟩
/-- a property with its getter -/
structure PrG (P : Program) (w : World) (K : PySem.W.Frag) (mg : Str → Option Value) (base : Heap) (CB : Addr) (p : Str) (pa f : Addr) (fd : FuncData) : Prop where
  po : PropOf K CB p pa f
  b : Binds K fd ["self"] []
  g : FnOk P w K mg base CX0 1 f fd ["self"] (spProp CB p)
theorem ok_wordsL {f fP : Addr} {fd fdP : FuncData} (F : Fun K "_law_words" "_law_words" sWordsL f fd) (T : Tx mg) (S : SWF K mg w D)
    (mP : mg "_law_pick" = some (.ref fP)) (kP : PySem.W.keepIn K (.ref fP) = true) (bP : Binds K fdP ["_law_pool_here", "_law_items"] []) (GP : FnOk P w K mg base CX0 2 fP fdP ["_law_pool_here", "_law_items"] (spPick K)) : FnOk P w K mg base CX0 3 f fd ["_law_pool_here"] spWordsL := by
  refine F.ok scWordsL (fun vs H Q E h => ?_) (fun cdv A outer s H vs Q E hr h => ?_)
  · obtain ⟨p, rfl, _⟩ := h
    rfl
  · obtain ⟨p, rfl, hp, q⟩ := h
    refine ⟨_, pss_one (ps_ret (pe_lc (own := [("_law_part", 1)]) (g := gName 1) (tt := tYes) (by rfl) scWordsL.nd (pi_list (pe_callTy (call_listW rfl) (by rfl) T.list (by decide +kernel) (pa_cons (pe_glob (v := .ref D) (by rfl) S.g rfl) pa_nil))) (blkOk_by (own := [("_law_part", 1)]) (N := ["_law_pool_here", "_law_part"]) (sc := defScope sWordsL) (by decide +kernel)) (fun _ _ _ _ _ => pg_name (i := 1) scWordsL.nd rfl (Or.inl rfl)) (fun _ _ _ _ _ => pts_nil)
      (fun _ _ _ _ _ => pe_call GP hr (by rfl) mP kP bP .nil pass0 (pa_cons (pv 0) (pa_cons (pe_callTy (show CallR _ (.type "list") (rListOf K) from call_list_of) (by rfl) T.list (by decide +kernel) (pa_cons (pe_ix (show IxR _ (rIxD K w) from ix_kdict) (pe_glob (v := .ref D) (by rfl) S.g rfl) (pv 1) (fun _ _ => rfl)) pa_nil)) pa_nil))))), ?_⟩
    refine ⟨D, prts, rfl, S.d, by decide, fun ls nls => ⟨ls, rfl, ⟨_, SqL.of upd_same⟩, fun L nL => ?_⟩⟩
    have nL0 : H L = none := none_of (same_new nls) nL
    have nls0 : H ls = none := nls
    have hlsL : ls ≠ L := ne_of_none upd_same nL
    have hlsp : ls ≠ p := ne_pool hp nls
    have hpL : p ≠ L := by
      obtain ⟨_, _, e, _⟩ := hp
      exact ne_of_none e nL0
    refine lc_list (K := K) (a := ls) (xs := prts.map V.str) (fun i H' => H' ls = some (.lst (prts.map V.str)) ∧ Pool H' p ∧ KeepP p H H' ∧ ∃ ws : List Str, ws.length = i ∧ GoodWs ws ∧ H' L = some (.lst (ws.map V.str))) ⟨?_, ?_, ?_, [], rfl, fun j z p e => by simp at e, upd_same⟩ (fun i H' _ h => SqL.of h.1) ?_ ?_
    · rw [upd_ne hlsL]
      exact upd_same
    · exact (hp.same (same_new nls)).same (same_new nL)
    · exact KeepP.same ((same_new nls).trans (same_new nL))
    · rintro i y H1 hy ⟨hls, hp1, k1, ws, hwl, hgw, hL⟩
      obtain ⟨a, ha, rfl⟩ := str_at2 hy
      have ham : a ∈ prts := List.mem_of_getElem? ha
      obtain ⟨TT, hk, ht⟩ := S.it a ham
      refine ⟨rfl, ?_⟩
      unfold tYes
      refine iteT ⟨_, rfl, _, rfl, D, a, _, rfl, rfl, hk, TT, _, rfl, .inr (ht _), fun l nl => ?_⟩
      have sl := same_new (o := .lst ((optW a).map V.str)) nl
      obtain ⟨o1, o2⟩ := optW_len ham
      refine ⟨p, l, _, rfl, hp1.same sl, ne_pool hp1 nl, SqL.of upd_same, by rw [List.length_map]; exact o1, by rw [List.length_map]; exact o2, fun x H2 hx hp2 k2 => ?_⟩
      obtain ⟨z, hz, rfl⟩ := List.mem_map.mp hx
      have hL2 := k2 _ _ hpL.symm (sl _ _ hL)
      have kk : KeepP p H H2 := (k1.trans (KeepP.same sl)).trans k2
      refine ⟨ws.map V.str, hL2, by rw [List.length_map, hwl]; exact small5 (by have := (List.getElem?_eq_some_iff.mp ha).1; simp [prts] at this; omega), ?_, ?_, ?_, ws ++ [z], by rw [List.length_append, hwl]; rfl, ?_, by rw [upd_same, List.map_append]; rfl⟩
      · rw [upd_ne hlsL]
        exact k2 _ _ hlsp (sl _ _ hls)
      · obtain ⟨g, s, e, r⟩ := hp2
        exact ⟨g, s, by rw [upd_ne hpL]; exact e, r⟩
      · intro b o hb e
        rw [upd_ne (ne_of_none e nL0)]
        exact kk b o hb e
      · intro j z' p' h1 h2
        by_cases hj : j < ws.length
        · rw [List.getElem?_append_left hj] at h1
          exact hgw j z' p' h1 h2
        · rw [List.getElem?_append_right (by omega)] at h1
          have e0 : j - ws.length = 0 := by
            cases hq : j - ws.length with
            | zero => rfl
            | succ n =>
              rw [hq] at h1
              simp at h1
          rw [e0] at h1
          have e1 : z = z' := by simpa using h1
          have e2 : j = i := by omega
          subst e1
          rw [e2, ha] at h2
          cases h2
          exact hz
    · rintro H1 ⟨hls, hp1, k1, ws, hwl, hgw, hL⟩
      obtain ⟨wd, hok, rfl⟩ := hgw.wds hwl
      exact q L wd H1 hok nL0 hp1 k1 hL
theorem ok_bookL {f fI : Addr} {fd fdI : FuncData} (F : Fun K "_law_book" "_law_book" sBookL f fd) (B : BF K mg CB) (M : Mk K CB fI) (hb : KBn K fdI ["self", "owner", "look", "choose", "wants", "early"] 1 kw5 (fun us ws => us ++ ws) (fun vs zs => vs ++ zs)) (GI : FnOk P w K mg base CX0 2 fI fdI ["self", "owner", "look", "choose", "wants", "early"] (spInit CB)) :
    FnOk P w K mg base CX0 4 f fd ["_law_words_here"] (spBookL K CB) := by
  refine F.ok scBookL (fun vs H Q E h => ?_) (fun cdv A outer s H vs Q E hr h => ?_)
  · obtain ⟨l, wd, rfl, _⟩ := h
    rfl
  · obtain ⟨l, wd, rfl, hS, hok, q⟩ := h
    refine ⟨_, pss_one (ps_ret (pe_makeK0 M GI hr (by rfl) B.gB hb pass0 (pk_cons (pe_ix ix_list (pv 0) pe_int (fun _ _ => rfl)) (pk_cons (pe_ix ix_list (pv 0) pe_int (fun _ _ => rfl)) (pk_cons (pe_ix ix_list (pv 0) pe_int (fun _ _ => rfl)) (pk_cons (pe_ix ix_list (pv 0) pe_int (fun _ _ => rfl)) (pk_cons (pe_ix ix_list (pv 0) pe_int (fun _ _ => rfl)) pk_nil))))))), ?_⟩
    refine ⟨_, rfl, l, _, 0, _, rfl, rfl, hS, atI_nat (j := 0) rfl, _, rfl, l, _, 1, _, rfl, rfl, hS, atI_nat (j := 1) rfl, _, rfl, l, _, 2, _, rfl, rfl, hS, atI_nat (j := 2) rfl, _, rfl, l, _, 3, _, rfl, rfl, hS, atI_nat (j := 3) rfl, _, rfl, l, _, 4, _, rfl, rfl, hS, atI_nat (j := 4) rfl, rfl, rfl, fun x dx nx ndx ne => ?_⟩
    refine ⟨x, dx, wd, rfl, upd_same, hok, fun d nd => ⟨rfl, ?_⟩⟩
    have nd1 : H d = none := by
      rw [upd_ne (show d ≠ x from fun e => by rw [e, upd_same] at nd; cases nd)] at nd
      by_cases e : d = dx
      · rw [e, upd_same] at nd
        cases nd
      · rw [upd_ne e] at nd
        exact nd
    refine q x d _ nx nd1 ?_ ⟨dx, upd_same, ?_⟩
    · intro b o e
      rw [upd_ne (ne_of_none e nx), upd_ne (ne_of_none e nd1), upd_ne (ne_of_none e nx), upd_ne (ne_of_none e ndx)]
      exact e
    · rw [upd_ne (show d ≠ x from fun e => by rw [e, upd_same] at nd; cases nd), upd_same]
end
end K1
namespace K1
open PySem PySem.Spec PyProof.Rows L2 Bk
theorem scRightL : FnScope ["_law_book_here", "_law_words_here", "_law_part"] ["_law_book_here", "_law_words_here"] (defScope sRightL) := ⟨rfl, rfl, rfl, by decide +kernel, rfl, by decide +kernel, by decide +kernel⟩
theorem word_ok {z : Str} (h : z ∈ oW ∨ z ∈ lW ∨ z ∈ cW ∨ z ∈ nW ∨ z ∈ eW) : PyData.canLay0 (.str z) = true := by
  have e : (oW ++ lW ++ cW ++ nW ++ eW).all (fun z => PyData.canLay0 (.str z)) = true := by decide +kernel
  rw [List.all_eq_true] at e
  apply e
  simp only [List.mem_append]
  rcases h with h | h | h | h | h <;> simp [h]
theorem opt_lay {p z : Str} (hp : p ∈ prts) (hz : z ∈ optW p) : PyData.canLay0 (.str z) = true := by
  have e1 : optW "owner" = oW := by decide +kernel
  have e2 : optW "look" = lW := by decide +kernel
  have e3 : optW "choose" = cW := by decide +kernel
  have e4 : optW "wants" = nW := by decide +kernel
  have e5 : optW "early" = eW := by decide +kernel
  rcases prts_cases hp with rfl | rfl | rfl | rfl | rfl
  · exact word_ok (.inl (e1 ▸ hz))
  · exact word_ok (.inr (.inl (e2 ▸ hz)))
  · exact word_ok (.inr (.inr (.inl (e3 ▸ hz))))
  · exact word_ok (.inr (.inr (.inr (.inl (e4 ▸ hz)))))
  · exact word_ok (.inr (.inr (.inr (.inr (e5 ▸ hz)))))
theorem eqv_s (a b : Str) : PyData.eqv (.str a) (.str b) = decide (a = b) := by
  rw [PyData.eqv]
  by_cases h : a = b
  · rw [h]
    simp
  · rw [decide_eq_false h]
    simpa using h
theorem dp_strs {K : PySem.W.Frag} {H : Hp} : ∀ r : List Str, DpAll K H (r.map V.str) (r.map PyData.str)
  | [] => .nil
  | a :: r => .cons (.str a) (dp_strs r)
theorem lay_strs : ∀ r : List Str, (∀ w ∈ r, PyData.canLay0 (.str w) = true) → PyData.canLayAll0 (r.map PyData.str) = true
  | [], _ => rfl
  | a :: r, h => by
    rw [List.map_cons, PyData.canLayAll0, h a List.mem_cons_self, lay_strs r fun w hw => h w (List.mem_cons_of_mem _ hw)]
    rfl
theorem dep_strs : ∀ r : List Str, PyData.depthAll (r.map PyData.str) = 0
  | [] => by rw [List.map_nil, PyData.depthAll]
  | a :: r => by
    rw [List.map_cons, PyData.depthAll, dep_strs r, PyData.depth]
    rfl
theorem words_lay {wd : Wds} (h : wd.Ok) : PyData.canLayAll0 (wd.list.map PyData.str) = true := lay_strs _ fun w hw => by
  obtain ⟨h1, h2, h3, h4, h5⟩ := h
  unfold Wds.list at hw
  simp only [List.mem_cons, List.not_mem_nil, or_false] at hw
  rcases hw with rfl | rfl | rfl | rfl | rfl
  · exact word_ok (.inl h1)
  · exact word_ok (.inr (.inl h2))
  · exact word_ok (.inr (.inr (.inl h3)))
  · exact word_ok (.inr (.inr (.inr (.inl h4))))
  · exact word_ok (.inr (.inr (.inr (.inr h5))))
theorem shaped_wl {wd : Wds} (h : wd.Ok) : SeqAt.shaped (.list (wd.list.map PyData.str)) = true := by
  unfold SeqAt.shaped
  rw [PyData.canLay0, words_lay h, PyData.depth, dep_strs]
  decide +kernel
theorem shaped_wt {wd : Wds} (h : wd.Ok) : SeqAt.shaped (.tuple (wd.list.map PyData.str)) = true := by
  unfold SeqAt.shaped
  rw [PyData.canLay0, words_lay h, PyData.depth, dep_strs]
  decide +kernel
theorem eqv_self {d : PyData} (h : SeqAt.shaped d = true) : PyData.eqv d d = true := SeqAt.eqv_refl _ (by
  unfold SeqAt.shaped at h
  rw [Bool.and_eq_true] at h
  exact h.1)
def spRight (K : PySem.W.Frag) (CB : Addr) : Sp := fun vs H Q _ => ∃ x d wd l, vs = [.ref x, .ref l] ∧ BookD CB H x d wd ∧ wd.Ok ∧ H l = some (.lst (wd.list.map V.str)) ∧ ∀ H', Same H H' → Q (.bl true) H'
section
variable {P : Program} {w : World} {K : PySem.W.Frag} {mg : Str → Option Value} {base : Heap} {CB CE D fG : Addr}
theorem ok_right {f fW : Addr} {fd fdW fdG : FuncData} {q1 q2 q3 q4 q5 g1 g2 g3 g4 g5 : Addr} {d1 d2 d3 d4 d5 : FuncData} (F : Fun K "_law_right" "_law_right" sRightL f fd) (T : Tx mg) (B : BF K mg CB) (S : SWF K mg w D)
    (mW : Meth K CB "words" fW) (bW : Binds K fdW ["self"] []) (GW : FnOk P w K mg base CX0 1 fW fdW ["self"] (spWords CB))
    (SG : Ow.Spc K CB fG "__getitem__") (hfn : PySem.W.fnIn K fG = true) (bG : Binds K fdG ["self", "part"] []) (GG : FnOk P w K mg base (CX P w) 3 fG fdG ["self", "part"] (spItem CB CE))
    (R1 : PrG P w K mg base CB "owner" q1 g1 d1) (R2 : PrG P w K mg base CB "look" q2 g2 d2) (R3 : PrG P w K mg base CB "choose" q3 g3 d3) (R4 : PrG P w K mg base CB "wants" q4 g4 d4) (R5 : PrG P w K mg base CB "early" q5 g5 d5) :
    FnOk P w K mg base CX0 5 f fd ["_law_book_here", "_law_words_here"] (spRight K CB) := by
  refine F.ok scRightL (fun vs H Q E h => ?_) (fun cdv A outer s H vs Q E hr h => ?_)
  · obtain ⟨x, d, wd, l, rfl, _⟩ := h
    rfl
  · obtain ⟨x, d, wd, l, rfl, ⟨dx, hx, hd⟩, hok, hl, q⟩ := h
    have hr1 : Room 1 _ := hr.mono (by decide)
    refine ⟨_, pss_cons (ps_if (PW.pt (pw_or (pt_cmpR (op_neD hr.units) (pe_meth0 (pv 0) B.cl mW GW hr1 bW .nil pass0) (pe_callTy call_tuple_of (by rfl) T.tuple (by decide +kernel) (pa_cons (pv 1) pa_nil)) (nomark _))
        (pw_or1 (pt_cmpR (op_neD hr.units) (pe_lc (own := [("_law_part", 2)]) (g := gName 2) (tt := tYes) (te := Ow.tSubO CB (spItem CB CE) E0 (tVar 0) (tVar 2)) (by rfl) scRightL.nd (pi_list (pe_callTy (call_listW rfl) (by rfl) T.list (by decide +kernel) (pa_cons (pe_glob (v := .ref D) (by rfl) S.g rfl) pa_nil))) (blkOk_by (own := [("_law_part", 2)]) (N := ["_law_book_here", "_law_words_here", "_law_part"]) (sc := defScope sRightL) (by decide +kernel)) (fun _ _ _ _ _ => pg_name (i := 2) scRightL.nd rfl (Or.inl rfl)) (fun _ _ _ _ _ => pts_nil)
          (fun _ _ _ _ _ => by exact Ow.pe_subO SG hfn GG hr bG passL (pv 0) (pv 2))) (pv 1) (nomark _))))) (pss_one (ps_ret pe_bl)) pss_nil) <|
      pss_one (ps_ret (pe_cmpR (op_eqD hr.units) (pe_lst (pa_cons (pe_prop (pv 0) B.cl R1.po R1.g (hr.mono (by decide)) R1.b .nil pass0 rfl) (pa_cons (pe_prop (pv 0) B.cl R2.po R2.g (hr.mono (by decide)) R2.b .nil pass0 rfl) (pa_cons (pe_prop (pv 0) B.cl R3.po R3.g (hr.mono (by decide)) R3.b .nil pass0 rfl) (pa_cons (pe_prop (pv 0) B.cl R4.po R4.g (hr.mono (by decide)) R4.b .nil pass0 rfl) (pa_cons (pe_prop (pv 0) B.cl R5.po R5.g (hr.mono (by decide)) R5.b .nil pass0 rfl) pa_nil)))))) (pv 1) (nomark _))), ?_⟩
    refine ⟨_, rfl, x, dx, _, rfl, hx, rfl, x, d, wd, rfl, ⟨dx, hx, hd⟩, fun t H1 nt s1 ht => ?_⟩
    refine ⟨_, rfl, l, _, rfl, .inl ⟨SqL.of (s1 _ _ hl), fun t2 nt2 => ?_⟩⟩
    have s2 := same_new (o := .tup (wd.list.map V.str)) nt2
    have s12 := s1.trans s2
    refine ⟨.tuple (wd.list.map PyData.str), .tuple (wd.list.map PyData.str), .tup (SqT.of (s2 _ _ ht)) (dp_strs _), .tup (SqT.of upd_same) (dp_strs _), shaped_wt hok, shaped_wt hok, _, rfl, ?_⟩
    rw [eqv_self (shaped_wt hok)]
    refine iteF ⟨D, prts, rfl, S.d, by decide, fun ls nls => ⟨ls, rfl, ⟨_, SqL.of upd_same⟩, fun L nL => ?_⟩⟩
    have s3 := s12.trans (same_new (o := .lst (prts.map V.str)) nls)
    have nL0 : H L = none := none_of s3 nL
    refine lc_list (K := K) (a := ls) (xs := prts.map V.str) (fun i H' => Same H H' ∧ H' ls = some (.lst (prts.map V.str)) ∧ H' L = some (.lst ((wd.list.map V.str).take i))) ⟨s3.trans (same_new nL), (same_new nL) _ _ upd_same, by rw [List.take_zero]; exact upd_same⟩ (fun i H' _ h => SqL.of h.2.1) ?_ ?_
    · rintro i y H2 hy ⟨s4, hls, hL⟩
      obtain ⟨k, hk, rfl⟩ := str_at2 hy
      have hkm : k ∈ prts := List.mem_of_getElem? hk
      refine ⟨rfl, ?_⟩
      unfold tYes
      refine iteT ⟨_, rfl, _, rfl, x, dx, _, rfl, s4 _ _ hx, x, d, wd, .str k, some k, rfl, ⟨dx, s4 _ _ hx, s4 _ _ hd⟩, rfl, .inl ⟨k, rfl, hkm, _, hL, ?_, same_upd s4 nL0, ?_, ?_⟩⟩
      · rw [List.length_take]
        exact small5 (by have : (wd.list.map V.str).length = 5 := rfl; omega)
      · rw [upd_ne (ne_of_none (upd_same : upd _ ls (HO.lst (prts.map V.str)) ls = _) nL)]
        exact hls
      · rw [upd_same, wds_str hk]
    · rintro H2 ⟨s4, hls, hL⟩
      have hL : H2 L = some (.lst (wd.list.map V.str)) := by
        have e : (wd.list.map V.str).take (prts.map V.str).length = wd.list.map V.str := List.take_of_length_le (Nat.le_refl 5)
        rw [← e]
        exact hL
      refine ⟨_, rfl, .list (wd.list.map PyData.str), .list (wd.list.map PyData.str), .lst (SqL.of hL) (dp_strs _), .lst (SqL.of (s4 _ _ hl)) (dp_strs _), shaped_wl hok, shaped_wl hok, _, rfl, ?_⟩
      rw [eqv_self (shaped_wl hok)]
      refine iteF ?_
      have hb : BookAt CB H2 x wd := ⟨dx, d, s4 _ _ hx, s4 _ _ hd⟩
      have hx2 := s4 _ _ hx
      refine ⟨_, rfl, x, dx, _, rfl, hx2, x, wd, rfl, hb, _, rfl, x, dx, _, rfl, hx2, x, wd, rfl, hb, _, rfl, x, dx, _, rfl, hx2, x, wd, rfl, hb, _, rfl, x, dx, _, rfl, hx2, x, wd, rfl, hb, _, rfl, x, dx, _, rfl, hx2, x, wd, rfl, hb, by show 5 ≤ sizeLine; decide, fun r nr => ?_⟩
      rw [at_owner, at_look, at_choose, at_wants, at_early]
      have s5 := same_new (o := .lst (wd.list.map V.str)) nr
      refine ⟨_, rfl, .list (wd.list.map PyData.str), .list (wd.list.map PyData.str), .lst (SqL.of upd_same) (dp_strs wd.list), .lst (SqL.of (s5 _ _ (s4 _ _ hl))) (dp_strs _), shaped_wl hok, shaped_wl hok, ?_⟩
      rw [eqv_self (shaped_wl hok)]
      exact q _ (s4.trans s5)
end
end K1
namespace K1
open PySem PySem.Spec PyProof.Rows L2 Bk Tk
theorem scMadeL : FnScope ["_law_words_here", "_law_book_here", "e"] ["_law_words_here"] (defScope sMadeL) := ⟨rfl, rfl, rfl, by decide +kernel, rfl, by decide +kernel, by decide +kernel⟩
/-- five values, of which the j-th is the first that is no word of its part -/
structure BadWs (H : Hp) (us : List V) (os : List (Option Str)) (j : Nat) (p : Str) : Prop where
  lu : us.length = 5
  lo : os.length = 5
  tx : ∀ (i : Nat) (u : V) (o : Option Str), us[i]? = some u → os[i]? = some o → TxAt H u o
  good : ∀ (i : Nat) (q : Str), i < j → prts[i]? = some q → ∃ z, os[i]? = some (some z) ∧ z ∈ optW q
  at_ : prts[j]? = some p
  bad : ∀ z, os[j]? = some (some z) → z ∉ optW p
theorem TxAt.same {H H' : Hp} {u : V} : ∀ {o : Option Str}, TxAt H u o → Same H H' → TxAt H' u o
  | some _, h, _ => h
  | none, h, s => NoSt.same h s
theorem BadWs.same {H H' : Hp} {us : List V} {os : List (Option Str)} {j : Nat} {p : Str} (h : BadWs H us os j p) (s : Same H H') : BadWs H' us os j p := ⟨h.lu, h.lo, fun i u o a b => (h.tx i u o a b).same s, h.good, h.at_, h.bad⟩
theorem kvs5_at {a b c d e u : V} {i : Nat} {k : Str} (hk : prts[i]? = some k) (hu : [a, b, c, d, e][i]? = some u) : valV (kvs5 a b c d e) (.inr k) = some u := by
  obtain ⟨h1, h2, h3, h4, h5⟩ := kvs5_get a b c d e
  match i, hk, hu with
  | 0, hk, hu => cases hk; cases hu; exact h1
  | 1, hk, hu => cases hk; cases hu; exact h2
  | 2, hk, hu => cases hk; cases hu; exact h3
  | 3, hk, hu => cases hk; cases hu; exact h4
  | 4, hk, hu => cases hk; cases hu; exact h5
  | i + 5, hk, _ => simp [prts] at hk
def spInitB (CB CE : Addr) : Sp := fun vs H _ E => ∃ (x dx : Addr) (us : List V) (os : List (Option Str)) (j : Nat) (p : Str), vs = .ref x :: us ∧ H x = some (.ins CB dx []) ∧ BadWs H us os j p ∧ Thr CE "part" (.str p) H E
def spBookB (K : PySem.W.Frag) (CE : Addr) : Sp := fun vs H _ E => ∃ (l : Addr) (us : List V) (os : List (Option Str)) (j : Nat) (p : Str), vs = [.ref l] ∧ SqL K H l us ∧ BadWs H us os j p ∧ Thr CE "part" (.str p) H E
def spMadeB (K : PySem.W.Frag) : Sp := fun vs H Q _ => ∃ (l : Addr) (us : List V) (os : List (Option Str)) (j : Nat) (p : Str), vs = [.ref l] ∧ SqL K H l us ∧ BadWs H us os j p ∧ ∀ (r : Addr) (H' : Hp), H r = none → Same H H' → H' r = some (.lst [.str p, .bl true]) → Q (.ref r) H'
section
variable {P : Program} {w : World} {K : PySem.W.Frag} {mg : Str → Option Value} {base : Heap} {CB CE CS D fE : Addr}
theorem ok_initB {f fW : Addr} {fd fdW fdE : FuncData} (F : Fun K "__init__" "Book.__init__" mInit f fd) (S : SWF K mg w D) (W : EF K mg CE fE "InvalidBook" "part") (bE : Binds K fdE ["self", "part"] []) (GE : FnOk P w K mg base CX0 1 fE fdE ["self", "part"] (spErr CE "part"))
    (mW : mg "_is_word" = some (.ref fW)) (kW : PySem.W.keepIn K (.ref fW) = true) (bW : Binds K fdW ["part", "value"] []) (GW : FnOk P w K mg base CX0 1 fW fdW ["part", "value"] (spIsWord K)) :
    FnOk P w K mg base (CX P w) 3 f fd ["self", "owner", "look", "choose", "wants", "early"] (spInitB CB CE) := by
  refine F.okX scInit (fun vs H Q E h => ?_) (fun cdv A outer s H vs Q E hr h => ?_)
  · obtain ⟨x, dx, us, os, j, p, rfl, _, h, _⟩ := h
    rw [List.length_cons, h.lu]
    rfl
  · obtain ⟨x, dx, us, os, j, p, rfl, hx, hb, q⟩ := h
    have hu := hu_of (hr.mono (by decide) : Room 2 _)
    obtain ⟨a, b, c, d, e, rfl⟩ : ∃ a b c d e, us = [a, b, c, d, e] := match us, hb.lu with | [a, b, c, d, e], _ => ⟨a, b, c, d, e, rfl⟩
    refine ⟨_, pss_cons (ps_set (i := 6) scInit.nd rfl (Or.inl rfl) (pe_disp (pps_cons pe_str (pv 1) (pps_cons pe_str (pv 2) (pps_cons pe_str (pv 3) (pps_cons pe_str (pv 4) (pps_cons pe_str (pv 5) pps_nil))))) (by rfl) (by rfl) (fun z => by cases z) (by decide)))
      (pss_cons (ps_for (passes_of rfl) rfl (pi_wkeys (pe_glob (v := .ref D) (by rfl) S.g rfl)) (pg_name (i := 7) scInit.nd rfl (Or.inl rfl))
        (pss_one (ps_if (pt_not (pt_val (pe_call GW (hr.mono (by decide)) (by rfl) mW kW bW .nil pass0 (pa_cons (pv 7) (pa_cons (pe_dget hu (pv 6) (pv 7) (fun _ _ => rfl)) pa_nil)))))
          (pss_one (ps_raise rfl (takes_of rfl rfl rfl rfl) (pmk_oex (dvs := []) (ds := []) W.ox W.iC W.tI GE hr bE .nil pass0 (by rfl) W.gE (pa_cons (pv 7) pa_nil)))) pss_nil)))
      (pss_one ps_never)), ?_⟩
    refine fun dd nd => ?_
    refine ⟨_, rfl, _, rfl, _, rfl, _, rfl, _, rfl, upd_same, kvs5 a b c d e, rfl, by show 5 ≤ 15; decide, ?_⟩
    have hd2 : (upd (upd H dd (.dK [])) dd (.dK (mergeK [] (kvs5 a b c d e)))) = upd H dd (.dK (kvs5 a b c d e)) := by
      rw [merge5]
      funext z
      by_cases hz : z = dd
      · rw [hz, upd_same, upd_same]
      · rw [upd_ne hz, upd_ne hz, upd_ne hz]
    show _
    rw [hd2]
    have sd := same_new (o := .dK (kvs5 a b c d e)) nd
    have hb2 := hb.same sd
    refine ⟨D, prts, rfl, S.d, for_it walk_w (fun i σ H' => H' = upd H dd (.dK (kvs5 a b c d e)) ∧ σ[6]? = some (some (V.ref dd)) ∧ σ.length = 8 ∧ i ≤ j) ⟨rfl, rfl, rfl, Nat.zero_le _⟩ (fun _ _ _ _ _ => trivial) ?_ ?_⟩
    · rintro i y σ H1 H2 hi ⟨rfl, s6, sl, hij⟩ ⟨rfl, k, hk, rfl⟩
      have hkm : k ∈ prts := List.mem_of_getElem? hk
      obtain ⟨u, hu5⟩ : ∃ u, [a, b, c, d, e][i]? = some u := ⟨_, List.getElem?_eq_getElem (show i < [a, b, c, d, e].length from hi)⟩
      have hio : i < os.length := by rw [hb.lo]; exact hi
      have ho := List.getElem?_eq_getElem hio
      have htx := hb2.tx i u _ hu5 ho
      refine ⟨.str k, List.getElem?_set_self (by omega), .ref dd, by rw [List.getElem?_set_ne (by decide)]; exact s6, .str k, List.getElem?_set_self (by omega), dd, u, rfl, (kvs5_at hk hu5) ▸ DGet.k (k := Sum.inr k) upd_same, ?_⟩
      refine ⟨k, u, rfl, hkm, ?_⟩
      by_cases e0 : i < j
      · obtain ⟨z, hz1, hz2⟩ := hb.good i k e0 hk
        rw [hz1] at ho
        injection ho with ho
        rw [← ho] at htx
        obtain rfl : u = .str z := htx
        refine .inl ⟨z, rfl, ?_⟩
        rw [decide_eq_true hz2]
        exact ⟨_, rfl, iteF ⟨rfl, by rw [List.getElem?_set_ne (by decide)]; exact s6, by rw [List.length_set]; exact sl, e0⟩⟩
      · have e1 : i = j := by omega
        subst e1
        have hkp : k = p := by
          have := hb.at_
          rw [hk] at this
          injection this
        subst hkp
        have fin : ∀ {Q : Prop}, True := fun {_} => trivial
        cases hoj : os[i] with
        | none =>
          rw [hoj] at htx
          exact .inr ⟨NoSt.noStr htx, _, rfl, iteT ⟨.str k, List.getElem?_set_self (by omega), by show 1 ≤ 1000; decide, raise_err (q.same sd)⟩⟩
        | some z =>
          rw [hoj] at htx ho
          obtain rfl : u = .str z := htx
          refine .inl ⟨z, rfl, _, rfl, ?_⟩
          rw [decide_eq_false (hb.bad z ho)]
          exact iteT ⟨.str k, List.getElem?_set_self (by omega), by show 1 ≤ 1000; decide, raise_err (q.same sd)⟩
    · rintro σ H1 ⟨_, _, _, hij⟩
      have hij : 5 ≤ j := hij
      have := (List.getElem?_eq_some_iff.mp hb.at_).1
      have h5 : prts.length = 5 := rfl
      omega
theorem ok_bookB {f fI : Addr} {fd fdI : FuncData} (F : Fun K "_law_book" "_law_book" sBookL f fd) (B : BF K mg CB) (M : Mk K CB fI) (hb : KBn K fdI ["self", "owner", "look", "choose", "wants", "early"] 1 kw5 (fun us ws => us ++ ws) (fun vs zs => vs ++ zs)) (GI : FnOk P w K mg base (CX P w) 3 fI fdI ["self", "owner", "look", "choose", "wants", "early"] (spInitB CB CE)) :
    FnOk P w K mg base (CX P w) 5 f fd ["_law_words_here"] (spBookB K CE) := by
  refine F.okX scBookL (fun vs H Q E h => ?_) (fun cdv A outer s H vs Q E hr h => ?_)
  · obtain ⟨l, us, os, j, p, rfl, _⟩ := h
    rfl
  · obtain ⟨l, us, os, j, p, rfl, hS, hbd, q⟩ := h
    obtain ⟨a, b, c, d, e, rfl⟩ : ∃ a b c d e, us = [a, b, c, d, e] := match us, hbd.lu with | [a, b, c, d, e], _ => ⟨a, b, c, d, e, rfl⟩
    refine ⟨_, pss_one (ps_ret (pe_makeK0 M GI hr (by rfl) B.gB hb (passes_call (takes_of rfl rfl rfl rfl) (fun _ _ _ _ z => z)) (pk_cons (pe_ix ix_list (pv 0) pe_int (fun _ _ => rfl)) (pk_cons (pe_ix ix_list (pv 0) pe_int (fun _ _ => rfl)) (pk_cons (pe_ix ix_list (pv 0) pe_int (fun _ _ => rfl)) (pk_cons (pe_ix ix_list (pv 0) pe_int (fun _ _ => rfl)) (pk_cons (pe_ix ix_list (pv 0) pe_int (fun _ _ => rfl)) pk_nil))))))), ?_⟩
    refine ⟨_, rfl, l, _, 0, _, rfl, rfl, hS, atI_nat (j := 0) rfl, _, rfl, l, _, 1, _, rfl, rfl, hS, atI_nat (j := 1) rfl, _, rfl, l, _, 2, _, rfl, rfl, hS, atI_nat (j := 2) rfl, _, rfl, l, _, 3, _, rfl, rfl, hS, atI_nat (j := 3) rfl, _, rfl, l, _, 4, _, rfl, rfl, hS, atI_nat (j := 4) rfl, rfl, rfl, fun x dx nx ndx ne => ?_⟩
    have sx : Same H (upd (upd H dx (.own x)) x (.ins CB dx [])) := fun b o e => by
      rw [upd_ne (ne_of_none e nx), upd_ne (ne_of_none e ndx)]
      exact e
    exact ⟨x, dx, _, os, j, p, rfl, upd_same, hbd.same sx, q.same sx⟩
theorem ok_madeB {f fB : Addr} {fd fdB : FuncData} (F : Fun K "_law_made" "_law_made" sMadeL f fd) (T : Tx mg) (W : EF K mg CE fE "InvalidBook" "part") (XF : XfC K CE) (tE : PySem.W.exmOne K (.ref CE) (.ref CE) = some true) (IC : IsC K CE) (gS : mg "SoleError" = some (.ref CS)) (k1 : PySem.W.kitOne K (.ref CE) (.ref CS) = some true)
    (mB : mg "_law_book" = some (.ref fB)) (kB : PySem.W.keepIn K (.ref fB) = true) (bB : Binds K fdB ["_law_words_here"] []) (GB : FnOk P w K mg base (CX P w) 5 fB fdB ["_law_words_here"] (spBookB K CE)) :
    FnOk P w K mg base CX0 6 f fd ["_law_words_here"] (spMadeB K) := by
  refine F.ok scMadeL (fun vs H Q E h => ?_) (fun cdv A outer s H vs Q E hr h => ?_)
  · obtain ⟨l, us, os, j, p, rfl, _⟩ := h
    rfl
  · obtain ⟨l, us, os, j, p, rfl, hS, hbd, q⟩ := h
    refine ⟨_, pss_cons (ps_try_manyA rfl rfl scMadeL.nd takes0
      (fun W' pn xe tk _ => pss_one (ps_set (i := 1) scMadeL.nd rfl (Or.inl rfl) (pe_callS GB hr (by rfl) mB kB bB (fun σ => passAt tk σ) (pa_cons (pv 0) pa_nil))))
      (.cons (i := 2) rfl rfl ⟨rfl, by decide, .inl W.gE⟩ (fun a oe cls d pn hz hf => pss_one (ps_ret (pe_lst (pa_cons (pe_xf XF W.noV hz hf (pv 2)) (pa_cons
        (pe_callB (id := "isinstance") (r := rIsX K CE a cls d) (call_isX IC hz hf) (by rfl) T.isi (by decide +kernel) (pa_cons (pv 2) (pa_cons (pe_glob (v := .ref CS) (by rfl) gS rfl) pa_nil))) pa_nil))))) .nil)) (pss_one ps_never), ?_⟩
    refine ⟨_, rfl, l, us, os, j, p, rfl, hS, hbd, fun dd H' nd sm hdd => ?_⟩
    refine ⟨true, tE, fun _ a na => ?_, fun z => nomatch z⟩
    refine ⟨_, rfl, rfl, rfl, dd, _, .str p, rfl, hdd, rfl, _, rfl, .ref CS, .ref CS, true, dd, _, rfl, fun u h => h, rfl, rfl, hdd, k1, by show 2 ≤ sizeLine; decide, fun r nr => ?_⟩
    exact q r _ (none_of sm nr) (sm.trans (same_new nr)) upd_same
end
end K1
namespace Tk
open PySem PySem.Spec PyProof.Rows L2
section
variable {P : Program} {w : World} {K : PySem.W.Frag} {mg : Str → Option Value} {base : Heap}
/-- a def for calls with no guard, by a body without a token -/
theorem okGP {CX : CXT} {x qual : Str} {st : Stmt} {f : Addr} {fd : FuncData} {N ps : List Str} {k : Nat} {sp : Sp} (F : Fun K x qual st f fd) (S : FnScope N ps (defScope st)) (len : ∀ vs H Q E, sp vs H Q E → vs.length = ps.length)
    (hbody : ∀ (cdv : Value) (A : Around) (outer : List Env) (s : Shared) (H : Hp) (vs : List V) (Q : VK) (E : XK), A.guards = some [] → Room k (A.deeper (envOfC qual (defScope st) s.heap.objs.size f cdv)) → sp vs H Q E →
      ∃ t, PSs (cxOf CX P w K mg base N qual (defScope st) f cdv A outer s H E) (defBody st) t ∧ t { nx := fun _ H2 => Q .non H2, rt := Q } (start N vs) H) : FnG 0 P w K mg base CX (k + 1) f fd ps sp :=
  okG F S len fun cdv A outer s H vs Q E gs hr h => let ⟨t, ht, q⟩ := hbody cdv A outer s H vs Q E gs hr h; ⟨t, fun pins z σ G D _ I q => ht.run pins z σ G D I q, q⟩
end
section
variable {X : Cx} {CX : CXT} {k : Nat} {f : Addr} {fd : FuncData} {ps : List Str} {sp : Sp} {E : XK}
/-- f(e, ..), where no guard stands -/
theorem pe_callG {x : Str} {p pos : Pos} {e : Expr} {es : List Expr} {t : TA} (gs : X.A.guards = some []) (F : FnG 0 X.prog X.w X.K X.mg X.base CX k f fd ps sp) (hr : Room k X.A) (hg : Gl X x) (hm : X.mg x = some (.ref f)) (hk : PySem.W.keepIn X.K (.ref f) = true) (hb : Binds X.K fd ps []) (hx : Passes CX X E)
    (ha : PA X (e :: es) t) (hdb : (x == ("__debug__" : Str)) = false := by decide) (he : starEach (e :: es) X.env = (false, eval e X.env) :: starEach es X.env := by rfl) (hpl : (backTo pos (starEach es X.env)).any (·.1) = false := by rfl) :
    PE X (.Call (.Name x p) (e :: es) [] pos) (tCall sp [] E t) := by
  refine ⟨fun pins s σ H Q I h => ?_⟩
  refine wpAny_Call_Name_kw (ld_glob I hg hm (PySem.W.callWith_K (h₀ := X.base) I.ok.mod.kin hk (thn (ha.run pos pins s σ H _ I h) fun us s1 z => ?_) he hpl) hdb)
  obtain ⟨vs, H1, I1, r, q⟩ := z
  rw [List.append_nil] at q
  refine ⟨I1.kIn, ?_⟩
  have hl : us.length = ps.length := r.length.symm.trans (F.len _ _ _ _ q)
  have b1 := hb s1 us I1.kIn ((congrArg List.length (List.append_nil us)).trans hl)
  rw [List.append_nil] at b1
  refine wpAny_call (codeAny_mono (F.run X.A X.stack s1 H1 ⟨us, []⟩ us vs Q E gs (Nat.zero_le _) hr I1.env0 b1 r q) fun res s2 z => ?_)
  match res, z with
  | .error er, z => exact hx pins σ H1 s1 er s2 I1 z
  | .ok (.ret _), z => exact I1.after z
end
end Tk
namespace K1
open PySem PySem.Spec PyProof.Rows L2 Bk Tk
theorem scNotSet : FnScope ["_law_book_here", "_law_part", "_law_word", "_law_due", "e"] ["_law_book_here", "_law_part", "_law_word", "_law_due"] (defScope sNotSet) := ⟨rfl, rfl, rfl, by decide +kernel, rfl, by decide +kernel, by decide +kernel⟩
theorem scNoItem : FnScope ["_law_book_here", "_law_part", "_law_word", "e"] ["_law_book_here", "_law_part"] (defScope sNoItem) := ⟨rfl, rfl, rfl, by decide +kernel, rfl, by decide +kernel, by decide +kernel⟩
theorem scNoCh : FnScope ["_law_book_here", "_law_changes", "_law_due", "_law_found", "e"] ["_law_book_here", "_law_changes", "_law_due"] (defScope sNoChanges) := ⟨rfl, rfl, rfl, by decide +kernel, rfl, by decide +kernel, by decide +kernel⟩
def TellsS (K : PySem.W.Frag) (H : Hp) (y : V) (z : Str) : Prop := ∀ H', Same H H' → Tells K H' y z
theorem TellsS.same {K : PySem.W.Frag} {H H' : Hp} {y : V} {z : Str} (h : TellsS K H y z) (s : Same H H') : TellsS K H' y z := fun H2 s2 => h H2 (s.trans s2)
def spNotSet (K : PySem.W.Frag) (CB : Addr) : Sp := fun vs H Q _ => ∃ x d wd p z op oz t, vs = [.ref x, p, z, p] ∧ BookD CB H x d wd ∧ TxAt H p op ∧ TxAt H z oz ∧ goodC (some (op, oz)) = false ∧ TellsS K H p t ∧ ∀ H', Same H H' → Q (.bl true) H'
def spNoItem (K : PySem.W.Frag) (CB : Addr) : Sp := fun vs H Q _ => ∃ x d wd p op t, vs = [.ref x, p] ∧ BookD CB H x d wd ∧ TxAt H p op ∧ (∀ ps, op = some ps → ps ∉ prts) ∧ TellsS K H p t ∧ ∀ H', Same H H' → Q (.bl true) H'
/-- no list of changes, and what is told of it -/
def NoCh (K : PySem.W.Frag) (H : Hp) (v due : V) : Prop :=
  (∃ l es cs i, v = .ref l ∧ H l = some (.lst es) ∧ es.length ≤ 100 ∧ es.length = cs.length ∧ (∀ (i : Nat) (e : V) (c : CH), es[i]? = some e → cs[i]? = some c → ∀ H', Same H H' → ChAt K H' e c) ∧ chg cs [] = .inl i ∧ es[i]? = some due) ∨ ((∃ t : String, TyX K H v (.type t) ∧ kitB t "list" = some false) ∧ due = .non)
def spNoCh (K : PySem.W.Frag) (CB : Addr) : Sp := fun vs H Q _ => ∃ x d wd v due t, vs = [.ref x, v, due] ∧ BookD CB H x d wd ∧ wd.Ok ∧ NoCh K H v due ∧ TellsS K H due t ∧ ∀ H', Same H H' → Q (.bl true) H'
section
variable {P : Program} {w : World} {K : PySem.W.Frag} {mg : Str → Option Value} {base : Heap} {CB CE D fE : Addr}
theorem ok_notSet {f fS : Addr} {fd fdS : FuncData} (F : Fun K "_law_not_set" "_law_not_set" sNotSet f fd) (B : BF K mg CB) (W : EF K mg CE fE "InvalidBook" "part") (XF : XfC K CE) (tE : PySem.W.exmOne K (.ref CE) (.ref CE) = some true) (zr : mg "repr" = none)
    (mS : Meth K CB "set_part" fS) (bS : Binds K fdS ["self", "part", "word"] []) (GS : FnOk P w K mg base (CX P w) 3 fS fdS ["self", "part", "word"] (spSet CB CE)) :
    FnG 0 P w K mg base CX0 4 f fd ["_law_book_here", "_law_part", "_law_word", "_law_due"] (spNotSet K CB) := by
  refine okGP F scNotSet (fun vs H Q E h => ?_) (fun cdv A outer s H vs Q E gs hr h => ?_)
  · obtain ⟨x, d, wd, p, z, op, oz, t, rfl, _⟩ := h
    rfl
  · obtain ⟨x, d, wd, p, z, op, oz, t, rfl, hb, hp, hz0, hg, ht, q⟩ := h
    have hu : A.units + 3 + 100 < cLine := by
      have h2 : A.units + 3 + 16 * 3 + 200 < cLine := hr.un
      omega
    refine ⟨_, pss_cons (ps_try_manyA rfl rfl scNotSet.nd takes0
        (fun W' pn xe tk _ => pss_one (ps_expr (pe_methS (pv 0) B.cl mS GS hr bS (fun σ => passAt tk σ) (pa_cons (pv 1) (pa_cons (pv 2) pa_nil)))))
        (.cons (i := 4) rfl rfl ⟨rfl, by decide, .inl W.gE⟩ (fun a oe cls d pn hz hf => pss_one (ps_ret (pe_cmpR op_eq (pe_callB (id := "repr") (r := rTells K) (call_tells gs hu) (by rfl) zr (by decide +kernel) (pa_cons (pe_xf XF W.noV hz hf (pv 4)) pa_nil))
          (pe_callB (id := "repr") (r := rTells K) (call_tells gs hu) (by rfl) zr (by decide +kernel) (pa_cons (pv 3) pa_nil)) (nomark _)))) .nil)) (pss_one ps_never), ?_⟩
    obtain ⟨dx, hx, hd⟩ := id hb
    refine ⟨_, rfl, x, dx, _, rfl, hx, rfl, _, rfl, _, rfl, x, d, wd, p, z, op, oz, rfl, hb, hp, hz0, .inr ⟨hg, fun dd H' nd sm hdd => ?_⟩⟩
    refine ⟨true, tE, fun _ a na => ?_, fun z => nomatch z⟩
    refine ⟨_, rfl, rfl, rfl, dd, _, p, rfl, hdd, rfl, p, t, rfl, ht H' sm, _, rfl, p, t, rfl, ht H' sm, rfl, ?_⟩
    rw [decide_eq_true rfl]
    exact q H' sm
theorem ok_noItem {f fG : Addr} {fd fdG : FuncData} (F : Fun K "_law_no_item" "_law_no_item" sNoItem f fd) (W : EF K mg CE fE "InvalidBook" "part") (XF : XfC K CE) (tE : PySem.W.exmOne K (.ref CE) (.ref CE) = some true) (zr : mg "repr" = none)
    (SG : Ow.Spc K CB fG "__getitem__") (hfn : PySem.W.fnIn K fG = true) (bG : Binds K fdG ["self", "part"] []) (GG : FnOk P w K mg base (CX P w) 3 fG fdG ["self", "part"] (spItem CB CE)) :
    FnG 0 P w K mg base CX0 5 f fd ["_law_book_here", "_law_part"] (spNoItem K CB) := by
  refine okGP F scNoItem (fun vs H Q E h => ?_) (fun cdv A outer s H vs Q E gs hr h => ?_)
  · obtain ⟨x, d, wd, p, op, t, rfl, _⟩ := h
    rfl
  · obtain ⟨x, d, wd, p, op, t, rfl, hb, hp, hn, ht, q⟩ := h
    have hu : A.units + 3 + 100 < cLine := by
      have h2 : A.units + 3 + 16 * 4 + 200 < cLine := hr.un
      omega
    refine ⟨_, pss_cons (ps_try_manyA rfl rfl scNoItem.nd takes0
        (fun W' pn xe tk _ => pss_one (ps_set (i := 2) scNoItem.nd rfl (Or.inl rfl) (pe_subS SG hfn GG hr bG (fun σ => passAt tk σ) (pv 0) (pv 1))))
        (.cons (i := 3) rfl rfl ⟨rfl, by decide, .inl W.gE⟩ (fun a oe cls d pn hz hf => pss_one (ps_ret (pe_cmpR op_eq (pe_callB (id := "repr") (r := rTells K) (call_tells gs hu) (by rfl) zr (by decide +kernel) (pa_cons (pe_xf XF W.noV hz hf (pv 3)) pa_nil))
          (pe_callB (id := "repr") (r := rTells K) (call_tells gs hu) (by rfl) zr (by decide +kernel) (pa_cons (pv 1) pa_nil)) (nomark _)))) .nil)) (pss_one ps_never), ?_⟩
    obtain ⟨dx, hx, hd⟩ := id hb
    refine ⟨_, rfl, _, rfl, x, dx, _, rfl, hx, x, d, wd, p, op, rfl, hb, hp, .inr ⟨hn, fun dd H' nd sm hdd => ?_⟩⟩
    refine ⟨true, tE, fun _ a na => ?_, fun z => nomatch z⟩
    refine ⟨_, rfl, rfl, rfl, dd, _, p, rfl, hdd, rfl, p, t, rfl, ht H' sm, _, rfl, p, t, rfl, ht H' sm, rfl, ?_⟩
    rw [decide_eq_true rfl]
    exact q H' sm
theorem ok_noCh {f fC : Addr} {fd fdC : FuncData} (F : Fun K "_law_no_changes" "_law_no_changes" sNoChanges f fd) (B : BF K mg CB) (W : EF K mg CE fE "InvalidBook" "part") (XF : XfC K CE) (tE : PySem.W.exmOne K (.ref CE) (.ref CE) = some true) (zr : mg "repr" = none)
    (mC : Meth K CB "changed" fC) (bC : Binds K fdC ["self", "changes"] []) (GC : FnOk P w K mg base (CX P w) 4 fC fdC ["self", "changes"] (spChanged K CB CE)) :
    FnG 0 P w K mg base CX0 5 f fd ["_law_book_here", "_law_changes", "_law_due"] (spNoCh K CB) := by
  refine okGP F scNoCh (fun vs H Q E h => ?_) (fun cdv A outer s H vs Q E gs hr h => ?_)
  · obtain ⟨x, d, wd, v, due, t, rfl, _⟩ := h
    rfl
  · obtain ⟨x, d, wd, v, due, t, rfl, hb, hok, hn, ht, q⟩ := h
    have hu : A.units + 3 + 100 < cLine := by
      have h2 : A.units + 3 + 16 * 4 + 200 < cLine := hr.un
      omega
    refine ⟨_, pss_cons (ps_try_manyA rfl rfl scNoCh.nd takes0
        (fun W' pn xe tk _ => pss_one (ps_set (i := 3) scNoCh.nd rfl (Or.inl rfl) (pe_methS (pv 0) B.cl mC GC hr bC (fun σ => passAt tk σ) (pa_cons (pv 1) pa_nil))))
        (.cons (i := 4) rfl rfl ⟨rfl, by decide, .inl W.gE⟩ (fun a oe cls d pn hz hf => pss_one (ps_ret (pe_cmpR op_eq (pe_callB (id := "repr") (r := rTells K) (call_tells gs hu) (by rfl) zr (by decide +kernel) (pa_cons (pe_xf XF W.noV hz hf (pv 4)) pa_nil))
          (pe_callB (id := "repr") (r := rTells K) (call_tells gs hu) (by rfl) zr (by decide +kernel) (pa_cons (pv 2) pa_nil)) (nomark _)))) .nil)) (pss_one ps_never), ?_⟩
    obtain ⟨dx, hx, hd⟩ := id hb
    refine ⟨_, rfl, x, dx, _, rfl, hx, rfl, _, rfl, x, d, wd, v, rfl, hb, hok, ?_⟩
    rcases hn with ⟨l, es, cs, i, rfl, h1, h2, h3, h4, h5, h6⟩ | ⟨hn, rfl⟩
    · refine .inl ⟨l, es, cs, rfl, h1, h2, h3, h4, .inr ⟨i, due, h5, h6, fun dd H' nd sm hdd => ?_⟩⟩
      refine ⟨true, tE, fun _ a na => ?_, fun z => nomatch z⟩
      refine ⟨_, rfl, rfl, rfl, dd, _, due, rfl, hdd, rfl, due, t, rfl, ht H' sm, _, rfl, due, t, rfl, ht H' sm, rfl, ?_⟩
      rw [decide_eq_true rfl]
      exact q H' sm
    · refine .inr ⟨hn, fun dd H' nd sm hdd => ?_⟩
      refine ⟨true, tE, fun _ a na => ?_, fun z => nomatch z⟩
      refine ⟨_, rfl, rfl, rfl, dd, _, .non, rfl, hdd, rfl, .non, t, rfl, ht H' sm, _, rfl, .non, t, rfl, ht H' sm, rfl, ?_⟩
      rw [decide_eq_true rfl]
      exact q H' sm
end
end K1
namespace K1
open PySem PySem.Spec PyProof.Rows L2 Bk Tk
theorem cut_pre (xs : List V) (j : Nat) : cutV xs none (some (j : Int)) = xs.take j := by
  unfold cutV
  rw [HT.sIx_nat, show HT.sIx xs.length 0 none = 0 from rfl, List.drop_zero, Nat.sub_zero]
  by_cases h : j ≤ xs.length
  · rw [Nat.min_eq_left h]
  · rw [Nat.min_eq_right (by omega), List.take_of_length_le (Nat.le_refl _), List.take_of_length_le (by omega)]
theorem cut_suf (xs : List V) (j : Nat) : cutV xs (some (j : Int)) none = xs.drop j := by
  unfold cutV
  rw [HT.sIx_nat, show HT.sIx xs.length xs.length none = xs.length from rfl]
  by_cases h : j ≤ xs.length
  · rw [Nat.min_eq_left h]
    exact List.take_of_length_le (by rw [List.length_drop]; exact Nat.le_refl _)
  · rw [Nat.min_eq_right (by omega), List.drop_of_length_le (Nat.le_refl _), List.drop_of_length_le (by omega), List.take_nil]
theorem set_list (wd : Wds) {j : Nat} {p : Str} (h : prts[j]? = some p) (z : Str) : (wd.set p z).list = wd.list.take j ++ [z] ++ wd.list.drop (j + 1) := by
  have m2 : ¬ (("look" : Str) = "owner") := by decide +kernel
  have m3 : ¬ (("choose" : Str) = "owner") ∧ ¬ (("choose" : Str) = "look") := by decide +kernel
  have m4 : ¬ (("wants" : Str) = "owner") ∧ ¬ (("wants" : Str) = "look") ∧ ¬ (("wants" : Str) = "choose") := by decide +kernel
  have m5 : ¬ (("early" : Str) = "owner") ∧ ¬ (("early" : Str) = "look") ∧ ¬ (("early" : Str) = "choose") ∧ ¬ (("early" : Str) = "wants") := by decide +kernel
  have n1 : ¬ (("owner" : Str) = "look") ∧ ¬ (("owner" : Str) = "choose") ∧ ¬ (("owner" : Str) = "wants") ∧ ¬ (("owner" : Str) = "early") := by decide +kernel
  have n2 : ¬ (("look" : Str) = "choose") ∧ ¬ (("look" : Str) = "wants") ∧ ¬ (("look" : Str) = "early") := by decide +kernel
  have n3 : ¬ (("choose" : Str) = "wants") ∧ ¬ (("choose" : Str) = "early") := by decide +kernel
  have n4 : ¬ (("wants" : Str) = "early") := by decide +kernel
  match j, h with
  | 0, h => cases h; simp [Wds.set, Wds.list, m2, m3, m4, m5, n1, n2, n3, n4]
  | 1, h => cases h; simp [Wds.set, Wds.list, m2, m3, m4, m5, n1, n2, n3, n4]
  | 2, h => cases h; simp [Wds.set, Wds.list, m2, m3, m4, m5, n1, n2, n3, n4]
  | 3, h => cases h; simp [Wds.set, Wds.list, m2, m3, m4, m5, n1, n2, n3, n4]
  | 4, h => cases h; simp [Wds.set, Wds.list, m2, m3, m4, m5, n1, n2, n3, n4]
  | j + 5, h => simp [prts] at h
theorem ovW_one (wd : Wds) (p z q : Str) : ovW wd [(p, z)] q = if p = q then z else wd.at q := by
  unfold ovW
  by_cases h : p = q
  · rw [if_pos h, List.find?_cons_of_pos (by exact decide_eq_true h)]
    rfl
  · rw [if_neg h, List.find?_cons_of_neg (by simpa using h)]
    rfl
theorem ov_set (wd : Wds) (p z : Str) : ov wd [(p, z)] = wd.set p z := by
  unfold ov Wds.set
  rw [ovW_one, ovW_one, ovW_one, ovW_one, ovW_one, at_owner, at_look, at_choose, at_wants, at_early]
theorem goodC_ok {p z : Str} (h1 : p ∈ prts) (h2 : z ∈ optW p) : goodC (some (some p, some z)) = true := by
  show (decide (p ∈ prts) && decide (z ∈ optW p)) = true
  rw [decide_eq_true h1, decide_eq_true h2]
  rfl
theorem goodC_bad {p : Str} {o : Option Str} (h : ∀ z, o = some z → z ∉ optW p) : goodC (some (some p, o)) = false := by
  cases o with
  | none => rfl
  | some z =>
    show (decide (p ∈ prts) && decide (z ∈ optW p)) = false
    rw [decide_eq_false (h z rfl), Bool.and_false]
theorem goodC_no {o o2 : Option Str} (h : ∀ z, o = some z → z ∉ prts) : goodC (some (o, o2)) = false := by
  cases o with
  | none => rfl
  | some z =>
    cases o2 with
    | none => rfl
    | some y =>
      show (decide (z ∈ prts) && decide (y ∈ optW z)) = false
      rw [decide_eq_false (h z rfl), Bool.false_and]
theorem okC_ok {p z : Str} {acc : List (Str × Str)} (h1 : p ∈ prts) (h2 : z ∈ optW p) (h3 : p ∉ acc.map (·.1)) : okC (some (some p, some z)) acc = some (p, z) := by
  show (if goodC (some (some p, some z)) = true ∧ p ∉ acc.map (·.1) then some (p, z) else none) = _
  rw [if_pos ⟨goodC_ok h1 h2, h3⟩]
theorem chg_one {p z : Str} (h1 : p ∈ prts) (h2 : z ∈ optW p) : chg [some (some p, some z)] [] = .inr [(p, z)] := by
  show (match okC (some (some p, some z)) [] with | some pz => (match chg [] ([] ++ [pz]) with | .inl k => Sum.inl (k + 1) | .inr a => .inr a) | none => .inl 0) = _
  rw [okC_ok h1 h2 (fun h => by cases h)]
  rfl
/-- the second of two is none -/
theorem chg_two {p z : Str} {c : CH} (h1 : p ∈ prts) (h2 : z ∈ optW p) (h : okC c [(p, z)] = none) : chg [some (some p, some z), c] [] = .inl 1 := by
  show (match okC (some (some p, some z)) [] with | some pz => (match chg [c] ([] ++ [pz]) with | .inl k => Sum.inl (k + 1) | .inr a => .inr a) | none => .inl 0) = _
  rw [okC_ok h1 h2 (fun h => by cases h)]
  show (match (match okC c [(p, z)] with | some pz => (match chg [] ([(p, z)] ++ [pz]) with | .inl k => Sum.inl (k + 1) | .inr a => .inr a) | none => .inl 0) with | .inl k => Sum.inl (k + 1) | .inr a => .inr a) = Sum.inl 1
  rw [h]
theorem okC_bad {c : CH} {acc : List (Str × Str)} (h : goodC c = false) : okC c acc = none := by
  cases e : okC c acc with
  | none => rfl
  | some pz =>
    obtain ⟨rfl, h1, h2, _⟩ := okC_some e
    rw [goodC_ok h1 h2] at h
    cases h
theorem okC_twice {p z : Str} {acc : List (Str × Str)} (h : p ∈ acc.map (·.1)) : okC (some (some p, some z)) acc = none := by
  show (if goodC (some (some p, some z)) = true ∧ p ∉ acc.map (·.1) then some (p, z) else none) = _
  rw [if_neg fun q => q.2 h]
theorem dec_beq (a b : Str) : decide (a = b) = (a == b) := by
  by_cases h : a = b
  · rw [decide_eq_true h, h]
    simp
  · rw [decide_eq_false h, beq_eq_false_iff_ne.mpr h]
theorem same_eqv (wd wv : Wds) : PyData.eqv (.list (wd.list.map PyData.str)) (.list (wv.list.map PyData.str)) = sameW wd wv := by
  unfold sameW Wds.list
  simp only [List.map_cons, List.map_nil]
  rw [PyData.eqv, PyData.eqvAll, PyData.eqvAll, PyData.eqvAll, PyData.eqvAll, PyData.eqvAll, PyData.eqvAll, eqv_s, eqv_s, eqv_s, eqv_s, eqv_s, dec_beq, dec_beq, dec_beq, dec_beq, dec_beq]
def prD (p : Str × Str) : PyData := .tuple [.str p.1, .str p.2]
theorem dp_prs {K : PySem.W.Frag} {H : Hp} : ∀ {qs : List Addr} {ps : List (Str × Str)}, PrT H qs ps → DpAll K H (qs.map V.ref) (ps.map prD)
  | [], [], _ => .nil
  | [], _ :: _, h => by
    have := h.1
    simp at this
  | _ :: _, [], h => by
    have := h.1
    simp at this
  | q :: qs, p :: ps, h => by
    obtain ⟨p2, h1, h2⟩ := h.2 0 q rfl
    cases h1
    exact .cons (.tup (SqT.of h2) (.cons (.str _) (.cons (.str _) .nil))) (dp_prs ⟨by simpa using h.1, fun i b hb => h.2 (i + 1) b hb⟩)
theorem lay_prs : ∀ ps : List (Str × Str), (∀ p ∈ ps, PyData.canLay0 (.str p.1) = true ∧ PyData.canLay0 (.str p.2) = true) → PyData.canLayAll0 (ps.map prD) = true ∧ PyData.depthAll (ps.map prD) ≤ 1
  | [], _ => by
    rw [List.map_nil, PyData.canLayAll0, PyData.depthAll]
    exact ⟨rfl, Nat.zero_le _⟩
  | p :: ps, h => by
    obtain ⟨h1, h2⟩ := lay_prs ps fun x hx => h x (List.mem_cons_of_mem _ hx)
    obtain ⟨a1, a2⟩ := h p List.mem_cons_self
    rw [List.map_cons, PyData.canLayAll0, PyData.depthAll, h1]
    unfold prD at h2 ⊢
    rw [PyData.canLay0, PyData.canLayAll0, PyData.canLayAll0, PyData.canLayAll0, a1, a2, PyData.depth, PyData.depthAll, PyData.depthAll, PyData.depthAll, PyData.depth, PyData.depth]
    exact ⟨rfl, by simp only [Nat.max_self]; omega⟩
theorem shaped_prs {ps : List (Str × Str)} (h : ∀ p ∈ ps, PyData.canLay0 (.str p.1) = true ∧ PyData.canLay0 (.str p.2) = true) : SeqAt.shaped (.list (ps.map prD)) = true := by
  obtain ⟨h1, h2⟩ := lay_prs ps h
  unfold SeqAt.shaped
  rw [PyData.canLay0, h1, Bool.true_and, PyData.depth]
  exact decide_eq_true (by omega)
theorem prt_lay {p : Str} (h : p ∈ prts) : PyData.canLay0 (.str p) = true := by
  rcases prts_cases h with rfl | rfl | rfl | rfl | rfl <;> decide +kernel
theorem diff_lay {wd wv : Wds} (h : wv.Ok) : SeqAt.shaped (.list ((diffL wd wv prts).map prD)) = true := shaped_prs fun p hp => by
  unfold diffL at hp
  rw [List.mem_map] at hp
  obtain ⟨q, hq, rfl⟩ := hp
  have hq1 := (List.mem_filter.mp hq).1
  exact ⟨prt_lay hq1, opt_lay hq1 (h.at hq1)⟩
theorem shaped_s {z : Str} (h : PyData.canLay0 (.str z) = true) : SeqAt.shaped (.str z) = true := by
  unfold SeqAt.shaped
  rw [h, PyData.depth]
  decide
/-- a value that is no word of p -/
def OddW (K : PySem.W.Frag) (H : Hp) (p : Str) (u : V) : Prop := ∃ (o : Option Str) (dd : PyData) (t : Str), (∀ H', Same H H' → TxAt H' u o ∧ Dp K H' u dd) ∧ SeqAt.shaped dd = true ∧ TellsS K H u t ∧ (∀ z, o = some z → z ∉ optW p) ∧ (PyData.eqv dd (.str p) = true ∨ (PyData.eqv dd (.str p) = false ∧ ∀ z, o = some z → z ∉ prts))
theorem OddW.same {K : PySem.W.Frag} {H H' : Hp} {p : Str} {u : V} (h : OddW K H p u) (s : Same H H') : OddW K H' p u := let ⟨o, dd, t, h1, h2, h3, h4⟩ := h; ⟨o, dd, t, fun H2 s2 => h1 H2 (s.trans s2), h2, h3.same s, h4⟩
def oddL (p : Str) (a : Addr) : List V := [.non, .str "", .str "Sole", .int 1, .bl true, .str p, .ref a]
/-- data of which repr is known and short -/
def tellD (d : PyData) : Bool := d.showable && (decide (d.depth ≤ 64) && (decide (d.shown.length ≤ 1000) && !d.hasDict))
theorem tells_of {K : PySem.W.Frag} {H : Hp} {y : V} {d : PyData} (h : ∀ H', Same H H' → Dp K H' y d) (hv : (∃ a, y = .ref a) ∨ flB y) (ht : tellD d = true) : TellsS K H y d.shown := fun H' s => by
  unfold tellD at ht
  rw [Bool.and_eq_true, Bool.and_eq_true, Bool.and_eq_true, decide_eq_true_iff, decide_eq_true_iff, Bool.not_eq_true'] at ht
  obtain ⟨h1, h2, h3, h4⟩ := ht
  exact .inr (.inr ⟨d, .inl ⟨h H' s, h4⟩, hv, h1, h2, Nat.le_trans h3 (by decide), rfl⟩)
theorem tells_int {K : PySem.W.Frag} {H : Hp} (i : Int) (h : i.natAbs.log2 < 1920) : TellsS K H (.int i) (Str.ofString (toString i)) := fun _ _ => .inl ⟨i, rfl, h, rfl⟩
theorem tells_bl {K : PySem.W.Frag} {H : Hp} (b : Bool) : TellsS K H (.bl b) (if b = true then ("True" : Str) else ("False" : Str)) := fun _ _ => .inr (.inl ⟨b, rfl, rfl⟩)
theorem word_tell {p z : Str} (hp : p ∈ prts) (hz : z ∈ optW p) : tellD (.str z) = true ∧ tellD (.list [.str z]) = true ∧ PyData.canLay0 (.str z) = true ∧ PyData.canLay0 (.str p) = true ∧ tellD (.str p) = true ∧ p ∉ optW p := by
  have e : prts.all (fun p => (optW p).all fun z => tellD (.str z) && (tellD (.list [.str z]) && (PyData.canLay0 (.str z) && (PyData.canLay0 (.str p) && (tellD (.str p) && !decide (p ∈ optW p)))))) = true := by decide +kernel
  rw [List.all_eq_true] at e
  have e := e p hp
  rw [List.all_eq_true] at e
  have e := e z hz
  rw [Bool.and_eq_true, Bool.and_eq_true, Bool.and_eq_true, Bool.and_eq_true, Bool.and_eq_true, Bool.not_eq_true', decide_eq_false_iff_not] at e
  exact e
theorem tells_prt {K : PySem.W.Frag} {H : Hp} {p z : Str} (hp : p ∈ prts) (hz : z ∈ optW p) : TellsS K H (.str p) (PyData.shown (.str p)) := tells_of (fun _ _ => .str p) (.inr (.inr ⟨p, rfl⟩)) (word_tell hp hz).2.2.2.2.1
theorem odd_no {p : Str} (hp : p ∈ prts) : ("" : Str) ∉ optW p ∧ ("Sole" : Str) ∉ optW p ∧ ("" : Str) ∉ prts ∧ ("Sole" : Str) ∉ prts ∧ ¬ ("" : Str) = p ∧ ¬ ("Sole" : Str) = p := by
  rcases prts_cases hp with rfl | rfl | rfl | rfl | rfl <;> decide +kernel
theorem odd_all {K : PySem.W.Frag} {H : Hp} {p z : Str} {a : Addr} (hp : p ∈ prts) (hz : z ∈ optW p) (ha : H a = some (.lst [.str z])) : ∀ u ∈ oddL p a, OddW K H p u := by
  intro u hu
  obtain ⟨n1, n2, n3, n4, n5, n6⟩ := odd_no hp
  obtain ⟨t1, t2, t3, t4, t5, t6⟩ := word_tell hp hz
  unfold oddL at hu
  simp only [List.mem_cons, List.not_mem_nil, or_false] at hu
  have sl : SeqAt.shaped (.list [.str z]) = true := by
    unfold SeqAt.shaped
    rw [PyData.canLay0, PyData.canLayAll0, PyData.canLayAll0, t3, PyData.depth, PyData.depthAll, PyData.depthAll, PyData.depth]
    decide
  rcases hu with rfl | rfl | rfl | rfl | rfl | rfl | rfl
  · exact ⟨none, .none, _, fun H' _ => ⟨.inl rfl, .non⟩, by decide +kernel, tells_of (fun _ _ => .non) (.inr (.inl rfl)) (by decide +kernel), fun _ e => (by cases e), .inr ⟨by rw [PyData.eqv], fun _ e => (by cases e)⟩⟩
  · exact ⟨some "", .str "", _, fun H' _ => ⟨rfl, .str ""⟩, by decide +kernel, tells_of (fun _ _ => .str "") (.inr (.inr ⟨_, rfl⟩)) (by decide +kernel), fun _ e => (by cases e; exact n1), .inr ⟨by rw [eqv_s]; exact decide_eq_false n5, fun _ e => (by cases e; exact n3)⟩⟩
  · exact ⟨some "Sole", .str "Sole", _, fun H' _ => ⟨rfl, .str "Sole"⟩, by decide +kernel, tells_of (fun _ _ => .str "Sole") (.inr (.inr ⟨_, rfl⟩)) (by decide +kernel), fun _ e => (by cases e; exact n2), .inr ⟨by rw [eqv_s]; exact decide_eq_false n6, fun _ e => (by cases e; exact n4)⟩⟩
  · exact ⟨none, .int 1, _, fun H' _ => ⟨.inr (.inr (.inl ⟨1, rfl⟩)), .int 1⟩, by decide +kernel, tells_int 1 (by decide), fun _ e => (by cases e), .inr ⟨by rw [PyData.eqv], fun _ e => (by cases e)⟩⟩
  · exact ⟨none, .bool true, _, fun H' _ => ⟨.inr (.inl ⟨true, rfl⟩), .bl true⟩, by decide +kernel, tells_bl true, fun _ e => (by cases e), .inr ⟨by rw [PyData.eqv], fun _ e => (by cases e)⟩⟩
  · exact ⟨some p, .str p, _, fun H' _ => ⟨rfl, .str p⟩, shaped_s t4, tells_prt hp hz, fun _ e => (by cases e; exact t6), .inl (by rw [eqv_s]; exact decide_eq_true rfl)⟩
  · exact ⟨none, .list [.str z], _, fun H' s => ⟨.inr (.inr (.inr (.inl ⟨a, _, rfl, s _ _ ha⟩))), .lst (SqL.of (s _ _ ha)) (.cons (.str z) .nil)⟩, sl, tells_of (fun H' s => .lst (SqL.of (s _ _ ha)) (.cons (.str z) .nil)) (.inl ⟨a, rfl⟩) t2, fun _ e => (by cases e), .inr ⟨by rw [PyData.eqv], fun _ e => (by cases e)⟩⟩
/-- the bad words of a turn -/
theorem bad_later {K : PySem.W.Frag} {H : Hp} {wv : Wds} {j : Nat} {p : Str} {u : V} {o : Option Str} (hok : wv.Ok) (hp : prts[j]? = some p) (ht : TxAt H u o) (hn : ∀ z, o = some z → z ∉ optW p) :
    BadWs H ((wv.list.map V.str).take j ++ [u] ++ (List.replicate (4 - j) [V.str "x"]).flatten) ((wv.list.take j).map some ++ ([o] ++ List.replicate (4 - j) (some ("x" : Str)))) j p := by
  have hg : ∀ (i : Nat) (q : Str), prts[i]? = some q → ∃ z, wv.list[i]? = some z ∧ z ∈ optW q := fun i q h => ⟨wv.at q, wd_at_list wv h, hok.at (List.mem_of_getElem? h)⟩
  have hj : j < 5 := (List.getElem?_eq_some_iff.mp hp).1
  have tx : ∀ (i : Nat) (z : Str), TxAt H (V.str z) (some z) := fun _ _ => rfl
  obtain ⟨a, b, c, d, e⟩ := wv
  have hb : ∀ z, [o][0]? = some (some z) → z ∉ optW p := fun z h => hn z (by simpa using h)
  match j, hp, hj with
  | 0, hp, _ => exact ⟨rfl, rfl, fun i v o' h1 h2 => by (match i, h1, h2 with | 0, h1, h2 => cases h1; cases h2; exact ht | 1, h1, h2 => cases h1; cases h2; rfl | 2, h1, h2 => cases h1; cases h2; rfl | 3, h1, h2 => cases h1; cases h2; rfl | 4, h1, h2 => cases h1; cases h2; rfl), fun i q h => absurd h (Nat.not_lt_zero _), hp, fun z h => hn z (Option.some.inj (show some o = some (some z) from h))⟩
  | 1, hp, _ => exact ⟨rfl, rfl, fun i v o' h1 h2 => by (match i, h1, h2 with | 0, h1, h2 => cases h1; cases h2; rfl | 1, h1, h2 => cases h1; cases h2; exact ht | 2, h1, h2 => cases h1; cases h2; rfl | 3, h1, h2 => cases h1; cases h2; rfl | 4, h1, h2 => cases h1; cases h2; rfl), fun i q h hq => by (match i, h with | 0, _ => exact (let ⟨z, e1, e2⟩ := hg 0 q hq; ⟨z, congrArg some e1, e2⟩)), hp, fun z h => hn z (Option.some.inj (show some o = some (some z) from h))⟩
  | 2, hp, _ => exact ⟨rfl, rfl, fun i v o' h1 h2 => by (match i, h1, h2 with | 0, h1, h2 => cases h1; cases h2; rfl | 1, h1, h2 => cases h1; cases h2; rfl | 2, h1, h2 => cases h1; cases h2; exact ht | 3, h1, h2 => cases h1; cases h2; rfl | 4, h1, h2 => cases h1; cases h2; rfl), fun i q h hq => by (match i, h with | 0, _ => exact (let ⟨z, e1, e2⟩ := hg 0 q hq; ⟨z, congrArg some e1, e2⟩) | 1, _ => exact (let ⟨z, e1, e2⟩ := hg 1 q hq; ⟨z, congrArg some e1, e2⟩)), hp, fun z h => hn z (Option.some.inj (show some o = some (some z) from h))⟩
  | 3, hp, _ => exact ⟨rfl, rfl, fun i v o' h1 h2 => by (match i, h1, h2 with | 0, h1, h2 => cases h1; cases h2; rfl | 1, h1, h2 => cases h1; cases h2; rfl | 2, h1, h2 => cases h1; cases h2; rfl | 3, h1, h2 => cases h1; cases h2; exact ht | 4, h1, h2 => cases h1; cases h2; rfl), fun i q h hq => by (match i, h with | 0, _ => exact (let ⟨z, e1, e2⟩ := hg 0 q hq; ⟨z, congrArg some e1, e2⟩) | 1, _ => exact (let ⟨z, e1, e2⟩ := hg 1 q hq; ⟨z, congrArg some e1, e2⟩) | 2, _ => exact (let ⟨z, e1, e2⟩ := hg 2 q hq; ⟨z, congrArg some e1, e2⟩)), hp, fun z h => hn z (Option.some.inj (show some o = some (some z) from h))⟩
  | 4, hp, _ => exact ⟨rfl, rfl, fun i v o' h1 h2 => by (match i, h1, h2 with | 0, h1, h2 => cases h1; cases h2; rfl | 1, h1, h2 => cases h1; cases h2; rfl | 2, h1, h2 => cases h1; cases h2; rfl | 3, h1, h2 => cases h1; cases h2; rfl | 4, h1, h2 => cases h1; cases h2; exact ht), fun i q h hq => by (match i, h with | 0, _ => exact (let ⟨z, e1, e2⟩ := hg 0 q hq; ⟨z, congrArg some e1, e2⟩) | 1, _ => exact (let ⟨z, e1, e2⟩ := hg 1 q hq; ⟨z, congrArg some e1, e2⟩) | 2, _ => exact (let ⟨z, e1, e2⟩ := hg 2 q hq; ⟨z, congrArg some e1, e2⟩) | 3, _ => exact (let ⟨z, e1, e2⟩ := hg 3 q hq; ⟨z, congrArg some e1, e2⟩)), hp, fun z h => hn z (Option.some.inj (show some o = some (some z) from h))⟩
end K1
namespace K1
open PySem PySem.Spec PyProof.Rows L2 Bk Tk
theorem scTurned : FnScope ["_law_pool_here", "_law_book_here", "_law_words_here", "_law_parts", "_law_at", "_law_word", "_law_later", "_law_changes", "_law_j", "_law_odd"] ["_law_pool_here", "_law_book_here", "_law_words_here"] (defScope sTurned) := ⟨rfl, rfl, rfl, by decide +kernel, rfl, by decide +kernel, by decide +kernel⟩
/-- all but what stands at p and d is as it was -/
def Keep2 (p d : Addr) (H H' : Hp) : Prop := ∀ b o, b ≠ p → b ≠ d → H b = some o → H' b = some o
def spTurned (K : PySem.W.Frag) (CB : Addr) : Sp := fun vs H Q _ => ∃ p x d l wd, vs = [.ref p, .ref x, .ref l] ∧ Pool H p ∧ BookD CB H x d wd ∧ wd.Ok ∧ H l = some (.lst (wd.list.map V.str)) ∧ l ≠ p ∧
  ∀ (l' : Addr) (wd' : Wds) (H' : Hp), wd'.Ok → H l' = none → Pool H' p → BookD CB H' x d wd' → H' l' = some (.lst (wd'.list.map V.str)) → Keep2 p d H H' → Q (.ref l') H'
/-- what a turn of the law holds -/
structure Tn (CB p x d l lp ll : Addr) (wd wb wv : Wds) (G : Hp) : Prop where
  po : Pool G p
  bo : BookD CB G x d wb
  wo : G l = some (.lst (wd.list.map V.str))
  pa : G lp = some (.lst (prts.map V.str))
  la : G ll = some (.lst (wv.list.map V.str))
theorem Tn.same {CB p x d l lp ll : Addr} {wd wb wv : Wds} {G G' : Hp} (h : Tn CB p x d l lp ll wd wb wv G) (s : Same G G') : Tn CB p x d l lp ll wd wb wv G' := ⟨h.po.same s, h.bo.same s, s _ _ h.wo, s _ _ h.pa, s _ _ h.la⟩
abbrev nTu : List Str := ["_law_pool_here", "_law_book_here", "_law_words_here", "_law_parts", "_law_at", "_law_word", "_law_later", "_law_changes", "_law_j", "_law_odd"]
section
variable {P : Program} {w : World} {K : PySem.W.Frag} {mg : Str → Option Value} {base : Heap} {CB CE D fE fQ : Addr}
theorem ok_turned {f fD fP fR fB fC fS fF fN fM : Addr} {fd fdD fdP fdR fdB fdC fdS fdF fdN fdM fdQ : FuncData} (F : Fun K "_law_turned" "_law_turned" sTurned f fd) (T : Tx mg) (B : BF K mg CB) (S : SWF K mg w D)
    (SQ : Ow.Spc K CB fQ "__eq__") (bQ : Binds K fdQ ["self", "other"] []) (GQ : FnOk P w K mg base CX0 1 fQ fdQ ["self", "other"] (spMEq K CB))
    (mD : mg "_law_draw" = some (.ref fD)) (kD : PySem.W.keepIn K (.ref fD) = true) (bD : Binds K fdD ["_law_pool_here", "_law_many"] []) (GD : FnOk P w K mg base CX0 1 fD fdD ["_law_pool_here", "_law_many"] spDraw)
    (mP : mg "_law_pick" = some (.ref fP)) (kP : PySem.W.keepIn K (.ref fP) = true) (bP : Binds K fdP ["_law_pool_here", "_law_items"] []) (GP : FnOk P w K mg base CX0 2 fP fdP ["_law_pool_here", "_law_items"] (spPick K))
    (mR : mg "_law_right" = some (.ref fR)) (kR : PySem.W.keepIn K (.ref fR) = true) (bR : Binds K fdR ["_law_book_here", "_law_words_here"] []) (GR : FnOk P w K mg base CX0 5 fR fdR ["_law_book_here", "_law_words_here"] (spRight K CB))
    (mB : mg "_law_book" = some (.ref fB)) (kB : PySem.W.keepIn K (.ref fB) = true) (bB : Binds K fdB ["_law_words_here"] []) (GB : FnOk P w K mg base CX0 4 fB fdB ["_law_words_here"] (spBookL K CB))
    (mC : Meth K CB "changed" fC) (bC : Binds K fdC ["self", "changes"] []) (GC : FnOk P w K mg base (CX P w) 4 fC fdC ["self", "changes"] (spChanged K CB CE))
    (mS : Meth K CB "set_part" fS) (bS : Binds K fdS ["self", "part", "word"] []) (GS : FnOk P w K mg base (CX P w) 3 fS fdS ["self", "part", "word"] (spSet CB CE))
    (mF : Meth K CB "difference" fF) (bF : Binds K fdF ["self", "other"] []) (GF : FnOk P w K mg base CX0 5 fF fdF ["self", "other"] (spDiff CB))
    (mN : mg "_law_not_set" = some (.ref fN)) (kN : PySem.W.keepIn K (.ref fN) = true) (bN : Binds K fdN ["_law_book_here", "_law_part", "_law_word", "_law_due"] []) (GN : FnG 0 P w K mg base CX0 4 fN fdN ["_law_book_here", "_law_part", "_law_word", "_law_due"] (spNotSet K CB))
    (mM : mg "_law_made" = some (.ref fM)) (kM : PySem.W.keepIn K (.ref fM) = true) (bM : Binds K fdM ["_law_words_here"] []) (GM : FnOk P w K mg base CX0 6 fM fdM ["_law_words_here"] (spMadeB K)) :
    FnG 0 P w K mg base CX0 7 f fd ["_law_pool_here", "_law_book_here", "_law_words_here"] (spTurned K CB) := by
  refine okGP F scTurned (fun vs H Q E h => ?_) (fun cdv A outer s H vs Q E gs hr h => ?_)
  · obtain ⟨p, x, d, l, wd, rfl, _⟩ := h
    rfl
  · obtain ⟨p, x, d, l, wd, rfl, hp, hb, hok, hl, hlp, q⟩ := h
    have hr1 : Room 1 _ := hr.mono (by decide)
    have hr2 : Room 2 _ := hr.mono (by decide)
    have hr3 : Room 3 _ := hr.mono (by decide)
    have hr4 : Room 4 _ := hr.mono (by decide)
    have hr5 : Room 5 _ := hr.mono (by decide)
    refine ⟨_, pss_cons (ps_set (i := 3) scTurned.nd rfl (Or.inr rfl) (pe_callTy (call_listW rfl) (by rfl) T.list (by decide +kernel) (pa_cons (pe_glob (v := .ref D) (by rfl) S.g rfl) pa_nil))) <|
      pss_cons (ps_set (i := 4) scTurned.nd rfl (Or.inl rfl) (pe_call GD hr1 (by rfl) mD kD bD .nil pass0 (pa_cons (pv 0) (pa_cons pe_int pa_nil)))) <|
      pss_cons (ps_set (i := 5) scTurned.nd rfl (Or.inl rfl) (pe_call GP hr2 (by rfl) mP kP bP .nil pass0 (pa_cons (pv 0) (pa_cons (pe_callTy call_list_of (by rfl) T.list (by decide +kernel) (pa_cons (pe_ix ix_kdict (pe_glob (v := .ref D) (by rfl) S.g rfl) (pe_ix ix_list (pv 3) (pv 4) (fun _ _ => rfl)) (fun _ _ => rfl)) pa_nil)) pa_nil)))) <|
      pss_cons (ps_set (i := 6) scTurned.nd rfl (Or.inr rfl) (pe_op op_cat (pe_op op_cat (pe_slice sl_list (pv 2) po_none (po_some (pv 4))) (pe_lst (pa_cons (pv 5) pa_nil))) (pe_slice sl_list (pv 2) (po_some (pe_op op_add (pv 4) pe_int)) po_none))) <|
      pss_cons (ps_if (PW.pt (pw_or (pt_not (pt_val (pe_call GR hr5 (by rfl) mR kR bR .nil pass0 (pa_cons (pe_meth (pv 1) B.cl mC GC hr4 bC .nil passL (pa_cons (pe_lst (pa_cons (pe_tup (pa_cons (pe_ix ix_list (pv 3) (pv 4) (fun _ _ => rfl)) (pa_cons (pv 5) pa_nil))) pa_nil)) pa_nil)) (pa_cons (pv 6) pa_nil)))))
        (pw_or1 (pt_not (pt_val (pe_call GR hr5 (by rfl) mR kR bR .nil pass0 (pa_cons (pv 1) (pa_cons (pv 2) pa_nil)))))))) (pss_one (ps_ret pe_non)) pss_nil) <|
      pss_cons (ps_if (pt_cmpR op_ne (pe_cmpR (Ow.op_eqO SQ GQ hr1 bQ pass0) (pv 1) (pe_call GB hr4 (by rfl) mB kB bB .nil pass0 (pa_cons (pv 6) pa_nil)) (nomark _)) (pe_cmpR (op_eqD hr.units) (pv 2) (pv 6) (nomark _)) (nomark _)) (pss_one (ps_ret pe_non)) pss_nil) <|
      pss_cons (ps_setLc (i := 7) (own := [("_law_j", 8)]) (g := gName 8) (tt := tTest (tOp rNe (tOp (rIxL K) (tVar 6) (tVar 8)) (tOp (rIxL K) (tVar 2) (tVar 8)))) (te := tTup (tCons (tOp (rIxL K) (tVar 3) (tVar 8)) (tCons (tOp (rIxL K) (tVar 6) (tVar 8)) tNil))) rfl scTurned.nd rfl rfl (sw_true rfl rfl rfl (by decide +kernel)) (pi_range1 (by rfl) T.range (pa_cons pe_int pa_nil)) (blkOk_by (own := [("_law_j", 8)]) (N := nTu) (sc := defScope sTurned) (by decide +kernel)) (fun _ _ _ _ _ => pg_name (i := 8) scTurned.nd rfl (Or.inl rfl))
        (fun _ _ _ _ _ => by exact pts_one (pt_cmpR op_ne (pe_ix (show IxR _ (rIxL K) from ix_list) (pv 6) (pv 8) (fun _ _ => rfl)) (pe_ix (show IxR _ (rIxL K) from ix_list) (pv 2) (pv 8) (fun _ _ => rfl)) (nomark _)))
        (fun _ _ _ _ _ => by exact pe_tup (pa_cons (pe_ix (show IxR _ (rIxL K) from ix_list) (pv 3) (pv 8) (fun _ _ => rfl)) (pa_cons (pe_ix (show IxR _ (rIxL K) from ix_list) (pv 6) (pv 8) (fun _ _ => rfl)) pa_nil)))) <|
      pss_cons (ps_if (pt_cmpR (op_neD hr.units) (pe_meth (pv 1) B.cl mF GF hr5 bF .nil pass0 (pa_cons (pe_call GB hr4 (by rfl) mB kB bB .nil pass0 (pa_cons (pv 6) pa_nil)) pa_nil)) (pv 7) (nomark _)) (pss_one (ps_ret pe_non)) pss_nil) <|
      pss_cons (ps_expr (pe_meth (pv 1) B.cl mS GS hr3 bS .nil passL (pa_cons (pe_ix ix_list (pv 3) (pv 4) (fun _ _ => rfl)) (pa_cons (pv 5) pa_nil)))) <|
      pss_cons (ps_for (passes_of rfl) rfl (pi_list (pe_lst (pa_cons pe_non (pa_cons pe_str (pa_cons pe_str (pa_cons pe_int (pa_cons pe_bl (pa_cons (pe_ix ix_list (pv 3) (pv 4) (fun _ _ => rfl)) (pa_cons (pe_lst (pa_cons (pv 5) pa_nil)) pa_nil))))))))) (pg_name (i := 9) scTurned.nd rfl (Or.inl rfl))
        (pss_cons (ps_if (pt_not (pt_val (pe_callG gs GN hr4 (by rfl) mN kN bN pass0 (pa_cons (pv 1) (pa_cons (pe_ix ix_list (pv 3) (pv 4) (fun _ _ => rfl)) (pa_cons (pv 9) (pa_cons (pe_ix ix_list (pv 3) (pv 4) (fun _ _ => rfl)) pa_nil))))))) (pss_one (ps_ret pe_non)) pss_nil) <|
        pss_cons (ps_if (PW.pt (pw_and (pt_cmpR (op_neD hr.units) (pv 9) (pe_ix ix_list (pv 3) (pv 4) (fun _ _ => rfl)) (nomark _)) (pw_and1 (pt_not (pt_val (pe_callG gs GN hr4 (by rfl) mN kN bN pass0 (pa_cons (pv 1) (pa_cons (pv 9) (pa_cons (pv 5) (pa_cons (pv 9) pa_nil)))))))))) (pss_one (ps_ret pe_non)) pss_nil) <|
        pss_one (ps_if (pt_cmpR (op_neD hr.units) (pe_call GM hr (by rfl) mM kM bM .nil pass0 (pa_cons (pe_op op_cat (pe_op op_cat (pe_slice sl_list (pv 6) po_none (po_some (pv 4))) (pe_lst (pa_cons (pv 9) pa_nil))) (pe_op op_rep (pe_lst (pa_cons pe_str pa_nil)) (pe_op op_sub pe_int (pv 4)))) pa_nil)) (pe_lst (pa_cons (pe_ix ix_list (pv 3) (pv 4) (fun _ _ => rfl)) (pa_cons pe_bl pa_nil))) (nomark _)) (pss_one (ps_ret pe_non)) pss_nil))) <|
      pss_one (ps_ret (pe_ifExp (pt_val (pe_call GR hr5 (by rfl) mR kR bR .nil pass0 (pa_cons (pv 1) (pa_cons (pv 6) pa_nil)))) (pv 6) pe_non)), ?_⟩
    refine ⟨D, prts, rfl, S.d, by decide, fun lp nlp => ?_⟩
    have s1 := same_new (o := .lst (prts.map V.str)) nlp
    refine ⟨_, rfl, p, 5, rfl, hp.same s1, by decide, by decide, fun e0 H2 e0a e0b hp2 k2 => ?_⟩
    obtain ⟨j, rfl⟩ : ∃ j : Nat, e0 = (j : Int) := ⟨e0.toNat, by omega⟩
    have hj : j < prts.length := by
      show j < 5
      omega
    obtain ⟨pt, hpt⟩ : ∃ pt, prts[j]? = some pt := ⟨_, List.getElem?_eq_getElem hj⟩
    have hptm : pt ∈ prts := List.mem_of_getElem? hpt
    have hptV : (prts.map V.str)[j]? = some (.str pt) := by
      rw [List.getElem?_map, hpt]
      rfl
    have nlpp : lp ≠ p := ne_pool hp nlp
    have pa2 := k2 _ _ nlpp (upd_same : upd H lp _ lp = _)
    obtain ⟨TT, hk, ht⟩ := S.it pt hptm
    obtain ⟨o1, o2⟩ := optW_len hptm
    refine ⟨_, rfl, _, rfl, _, rfl, lp, _, _, _, rfl, rfl, SqL.of pa2, atI_nat hptV, D, pt, _, rfl, rfl, hk, TT, _, rfl, .inr (ht _), fun lo nlo => ?_⟩
    have s3 := same_new (o := .lst ((optW pt).map V.str)) nlo
    refine ⟨p, lo, _, rfl, hp2.same s3, ne_pool hp2 nlo, SqL.of upd_same, by rw [List.length_map]; exact o1, by rw [List.length_map]; exact o2, fun zv H4 hzv hp4 k4 => ?_⟩
    obtain ⟨z, hz, rfl⟩ := List.mem_map.mp hzv
    have kk : KeepP p H H4 := ((KeepP.same s1).trans k2).trans ((KeepP.same s3).trans k4)
    have hl4 := kk _ _ hlp hl
    have hb4 : BookD CB H4 x d wd := by
      obtain ⟨dx, hx, hd⟩ := hb
      obtain ⟨g, s, e, _⟩ := hp
      exact ⟨dx, kk _ _ (fun q => by rw [q, e] at hx; cases hx) hx, kk _ _ (fun q => by rw [q, e] at hd; cases hd) hd⟩
    have pa4 : H4 lp = some (.lst (prts.map V.str)) := k4 _ _ nlpp (s3 _ _ pa2)
    have nlpH : H lp = none := nlp
    have lplP : True := trivial
    -- the later words
    refine ⟨_, rfl, _, rfl, _, rfl, l, _, rfl, SqL.of hl4, fun la nla => ?_⟩
    rw [cut_pre]
    refine ⟨_, rfl, by show 1 ≤ sizeLine; decide, fun lb nlb => ?_⟩
    have sa := same_new (o := .lst ((wd.list.map V.str).take j)) nla
    have sb := same_new (o := .lst [V.str z]) nlb
    refine ⟨la, lb, _, _, rfl, rfl, sb _ _ upd_same, upd_same, by rw [List.length_take]; exact Nat.le_of_lt (small5 (by have : (wd.list.map V.str).length = 5 := rfl; show _ + 1 < 5000; omega)), fun lc nlc => ?_⟩
    have sc := same_new (o := .lst ((wd.list.map V.str).take j ++ [V.str z])) nlc
    have sabc := (sa.trans sb).trans sc
    refine ⟨_, rfl, _, rfl, _, _, rfl, rfl, _, rfl, l, _, rfl, SqL.of (sabc _ _ hl4), fun ld nld => ?_⟩
    rw [show ((j : Int) + 1) = ((j + 1 : Nat) : Int) by omega, cut_suf]
    have sd := same_new (o := .lst ((wd.list.map V.str).drop (j + 1))) nld
    refine ⟨lc, ld, _, _, rfl, rfl, sd _ _ upd_same, upd_same, ?_, fun ll nll => ?_⟩
    · rw [List.length_append, List.length_take, List.length_drop]
      exact Nat.le_of_lt (small5 (by have : (wd.list.map V.str).length = 5 := rfl; show _ + 1 + _ < 5000; omega))
    have eqL : (wd.list.map V.str).take j ++ [V.str z] ++ (wd.list.map V.str).drop (j + 1) = (wd.set pt z).list.map V.str := by
      rw [set_list wd hpt z, List.map_append, List.map_append, List.map_take, List.map_drop]
      rfl
    rw [eqL]
    have hokv := Wds.set_ok hok hptm hz
    have sall := (sabc.trans sd).trans (same_new (o := .lst ((wd.set pt z).list.map V.str)) nll)
    have nll0 : H ll = none := by
      have hn : H4 ll = none := none_of (sabc.trans sd) nll
      have hp' := hp4
      exact none_keep kk hp hn hp4
    have nllp : ll ≠ p := ne_pool (hp4.same (sabc.trans sd)) nll
    have tn : Tn CB p x d l lp ll wd wd (wd.set pt z) _ := ⟨hp4.same sall, hb4.same sall, sall _ _ hl4, sall _ _ pa4, upd_same⟩
    have kk5 := kk.trans (KeepP.same sall)
    revert tn kk5
    generalize upd (upd (upd (upd (upd H4 la _) lb _) lc _) ld _) ll _ = H5
    intro tn kk5
    clear sall sd sabc sc sb sa nla nlb nlc nld nll hl4 hb4 pa4
    generalize hwv : wd.set pt z = wv at *
    -- changed
    have nd_of : ∀ {G : Hp}, Tn CB p x d l lp ll wd wd wv G → ∃ dx, G x = some (.ins CB dx [("chosen", .ref d)]) := fun h => let ⟨dx, a, _⟩ := h.bo; ⟨dx, a⟩
    obtain ⟨dx5, hx5⟩ := nd_of tn
    refine ⟨_, rfl, x, dx5, _, rfl, hx5, rfl, ?_⟩
    refine ⟨_, rfl, _, rfl, lp, _, _, _, rfl, rfl, SqL.of tn.pa, atI_nat hptV, _, rfl, by show 2 ≤ sizeLine; decide, fun tt ntt => ⟨by show 1 ≤ sizeLine; decide, fun lc nlc => ?_⟩⟩
    have st := same_new (o := .tup [V.str pt, .str z]) ntt
    have sl := same_new (o := .lst [V.ref tt]) nlc
    have stl := st.trans sl
    refine ⟨x, d, wd, .ref lc, rfl, (tn.same stl).bo, hok, .inl ⟨lc, _, [some (some pt, some z)], rfl, upd_same, by show 1 ≤ 100; decide, rfl, ?_, .inl ⟨[(pt, z)], chg_one hptm hz, fun x' d' H6 nx nd' s6 hb6 => ?_⟩⟩⟩
    · intro i e c h1 h2 G' sG
      match i, h1, h2 with
      | 0, h1, h2 =>
        cases h1
        cases h2
        exact ⟨tt, _, _, rfl, SqT.of (sG _ _ (sl _ _ upd_same)), rfl, rfl⟩
      | i + 1, h1, _ => simp at h1
    rw [ov_set, hwv] at hb6
    have tn6 := tn.same (stl.trans s6)
    have kk6 := kk5.trans (KeepP.same (stl.trans s6))
    refine ⟨_, rfl, x', d', wv, ll, rfl, hb6, hokv, tn6.la, fun H7 s7 => ⟨_, rfl, iteF ?_⟩⟩
    have tn7 := tn6.same s7
    refine ⟨_, rfl, _, rfl, x, d, wd, l, rfl, tn7.bo, hok, tn7.wo, fun H8 s8 => ⟨_, rfl, iteF ?_⟩⟩
    have tn8 := tn7.same s8
    have kk8 := kk6.trans (KeepP.same (s7.trans s8))
    clear tn6 tn7 kk6 stl sl st s6 s7 s8 hb6 nx nd' nlc ntt hx5 tn kk5
    -- equal books
    obtain ⟨dx8, hx8⟩ := nd_of tn8
    refine ⟨_, rfl, _, rfl, ll, wv, rfl, SqL.of tn8.la, hokv, fun y dy H9 ny ndy s9 hby => ?_⟩
    have tn9 := tn8.same s9
    obtain ⟨dyx, hy1, hy2⟩ := id hby
    refine ⟨x, dx8, _, rfl, s9 _ _ hx8, .inl ⟨y, dyx, _, rfl, hy1⟩, x, d, wd, .ref y, rfl, tn9.bo, .inl ⟨y, dy, wv, rfl, hby, _, rfl, ?_⟩⟩
    refine ⟨_, rfl, _, rfl, .list (wd.list.map PyData.str), .list (wv.list.map PyData.str), .lst (SqL.of tn9.wo) (dp_strs _), .lst (SqL.of tn9.la) (dp_strs _), shaped_wl hok, shaped_wl hokv, ?_⟩
    rw [same_eqv]
    refine ⟨rfl, _, rfl, ?_⟩
    rw [decide_eq_true (rfl : V.bl (sameW wd wv) = V.bl (sameW wd wv))]
    refine iteF ?_
    have kk9 := kk8.trans (KeepP.same s9)
    clear tn8 kk8 hx8 hby hy1 hy2 ny ndy s9
    -- the changes
    refine ⟨5, rfl, by decide, by decide, fun L nL => ?_⟩
    have sL := same_new (o := .lst []) nL
    refine lc_range (lo := 0) (n := 5) (fun i G => Same H9 G ∧ ∃ qs : List Addr, G L = some (.lst (qs.map V.ref)) ∧ PrT G qs (diffL wd wv (prts.take i))) ⟨sL, [], upd_same, rfl, fun i q e => by simp at e⟩ ?_ ?_
    · rintro i G hi ⟨s1, qs, hL, hq⟩
      rw [Int.zero_add]
      obtain ⟨k, hk⟩ : ∃ k, prts[i]? = some k := ⟨_, List.getElem?_eq_getElem hi⟩
      have hkV : (prts.map V.str)[i]? = some (.str k) := by
        rw [List.getElem?_map, hk]
        rfl
      have hv1 : (wv.list.map V.str)[i]? = some (.str (wv.at k)) := by
        rw [List.getElem?_map, wd_at_list wv hk]
        rfl
      have hv2 : (wd.list.map V.str)[i]? = some (.str (wd.at k)) := by
        rw [List.getElem?_map, wd_at_list wd hk]
        rfl
      have tg := tn9.same s1
      have step := diff_step (wd := wd) (wv := wv) hk
      refine ⟨rfl, ?_⟩
      refine ⟨_, rfl, _, rfl, ll, _, _, _, rfl, rfl, SqL.of tg.la, atI_nat hv1, _, rfl, _, rfl, l, _, _, _, rfl, rfl, SqL.of tg.wo, atI_nat hv2, rfl, _, rfl, ?_⟩
      rw [dec_str]
      by_cases e : wd.at k = wv.at k
      · rw [beq_iff_eq.mpr e.symm]
        rw [if_pos e, List.append_nil] at step
        exact iteF ⟨s1, qs, hL, by rw [step]; exact hq⟩
      · rw [beq_eq_false_iff_ne.mpr fun h => e h.symm]
        rw [if_neg e] at step
        refine iteT ⟨_, rfl, _, rfl, lp, _, _, _, rfl, rfl, SqL.of tg.pa, atI_nat hkV, _, rfl, _, rfl, ll, _, _, _, rfl, rfl, SqL.of tg.la, atI_nat hv1, by show 2 ≤ sizeLine; decide, fun t nt => ?_⟩
        have st := same_new (o := .tup [.str k, .str (wv.at k)]) nt
        have hL2 := st _ _ hL
        refine ⟨_, hL2, ?_, same_upd (s1.trans st) nL, qs ++ [t], by rw [upd_same, List.map_append]; rfl, ?_⟩
        · rw [List.length_map, hq.1]
          unfold diffL
          rw [List.length_map]
          have h1 : ((prts.take i).filter fun p => !decide (wd.at p = wv.at p)).length ≤ (prts.take i).length := List.length_filter_le _ _
          have h2 : (prts.take i).length ≤ 5 := by rw [List.length_take]; exact Nat.min_le_right _ _
          exact small5 (by omega)
        · rw [step]
          exact ((hq.same st).app (p := (k, wv.at k)) upd_same).lst hL2
    rintro HA ⟨sA, qs, hL, hq⟩
    have hq : PrT HA qs (diffL wd wv prts) := hq
    have tnA := tn9.same sA
    have kkA := kk9.trans (KeepP.same sA)
    clear tn9 kk9 sL nL
    -- difference
    obtain ⟨dxA, hxA⟩ := nd_of tnA
    refine ⟨_, rfl, x, dxA, _, rfl, hxA, rfl, _, rfl, ll, wv, rfl, SqL.of tnA.la, hokv, fun y dy HB ny ndy sB hby => ?_⟩
    have tnB := tnA.same sB
    refine ⟨x, d, wd, y, dy, wv, rfl, tnB.bo, hby, fun lq qs2 HC nlq sC hlq hq2 => ?_⟩
    have tnC := tnB.same sC
    refine ⟨_, rfl, .list ((diffL wd wv prts).map prD), .list ((diffL wd wv prts).map prD), .lst (SqL.of hlq) (dp_prs hq2), .lst (SqL.of ((sB.trans sC) _ _ hL)) (dp_prs (hq.same (sB.trans sC))), diff_lay hokv, diff_lay hokv, _, rfl, ?_⟩
    rw [eqv_self (diff_lay hokv)]
    refine iteF ?_
    have kkC := kkA.trans (KeepP.same (sB.trans sC))
    clear tnA tnB kkA hq hq2 hlq hL hby ny ndy sA sB sC nlq
    -- the word is set
    obtain ⟨dxC, hxC⟩ := nd_of tnC
    refine ⟨_, rfl, x, dxC, _, rfl, hxC, rfl, _, rfl, _, rfl, lp, _, _, _, rfl, rfl, SqL.of tnC.pa, atI_nat hptV, _, rfl, x, d, wd, .str pt, .str z, some pt, some z, rfl, tnC.bo, rfl, rfl, .inl ⟨pt, z, rfl, rfl, hptm, hz, ?_⟩⟩
    rw [hwv]
    obtain ⟨_, _, hdC⟩ := id tnC.bo
    have nlpd : ∀ {b : Addr} {xs : List V}, HC b = some (.lst xs) → b ≠ d := fun h e => by
      rw [e, hdC] at h
      cases h
    have hpd : p ≠ d := by
      obtain ⟨_, _, e, _⟩ := tnC.po
      exact nlpd e
    have hxd : x ≠ d := fun e => by
      rw [e, hdC] at hxC
      cases hxC
    have tnD : Tn CB p x d l lp ll wd wv wv (upd HC d (.dK wv.kvs)) := by
      refine ⟨?_, ⟨dxC, ?_, upd_same⟩, ?_, ?_, ?_⟩
      · obtain ⟨g, s, e, r⟩ := tnC.po
        exact ⟨g, s, by rw [upd_ne hpd]; exact e, r⟩
      · rw [upd_ne hxd]
        exact hxC
      · rw [upd_ne (nlpd tnC.wo)]
        exact tnC.wo
      · rw [upd_ne (nlpd tnC.pa)]
        exact tnC.pa
      · rw [upd_ne (nlpd tnC.la)]
        exact tnC.la
    have kkD : Keep2 p d H (upd HC d (.dK wv.kvs)) := fun b o h1 h2 e => by
      rw [upd_ne h2]
      exact kkC b o h1 e
    revert tnD kkD
    generalize upd HC d (.dK wv.kvs) = HD
    intro tnD kkD
    clear tnC kkC hxC hdC nlpd
    -- odd words
    refine ⟨_, rfl, _, rfl, lp, _, _, _, rfl, rfl, SqL.of tnD.pa, atI_nat hptV, _, rfl, by show 1 ≤ sizeLine; decide, fun lw nlw => ⟨by show 7 ≤ sizeLine; decide, fun lo nlo => ?_⟩⟩
    have sw := same_new (o := .lst [V.str z]) nlw
    have so := same_new (o := .lst [V.non, .str "", .str "Sole", .int 1, .bl true, .str pt, .ref lw]) nlo
    have hodd := odd_all (K := K) (H := upd (upd HD lw (.lst [V.str z])) lo (.lst [V.non, .str "", .str "Sole", .int 1, .bl true, .str pt, .ref lw])) hptm hz (so _ _ upd_same)
    have tnE := tnD.same (sw.trans so)
    have hlo : upd (upd HD lw (.lst [V.str z])) lo (.lst [V.non, .str "", .str "Sole", .int 1, .bl true, .str pt, .ref lw]) lo = some (.lst (oddL pt lw)) := upd_same
    have kkE : Keep2 p d H (upd (upd HD lw (.lst [V.str z])) lo (.lst [V.non, .str "", .str "Sole", .int 1, .bl true, .str pt, .ref lw])) := fun b o h1 h2 e => (sw.trans so) _ _ (kkD b o h1 h2 e)
    revert hodd tnE hlo kkE
    show _ → _ → _ → _ → _
    generalize upd (upd HD lw (.lst [V.str z])) lo (.lst [V.non, .str "", .str "Sole", .int 1, .bl true, .str pt, .ref lw]) = HE
    intro hodd tnE hlo kkE
    refine ⟨lo, rfl, ⟨_, SqL.of hlo⟩, for_it (walk_list (K := K) (a := lo) (xs := oddL pt lw)) (fun i σ G => Same HE G ∧ ∃ v7 v9, σ = [some (.ref p), some (.ref x), some (.ref l), some (.ref lp), some (.int j), some (.str z), some (.ref ll), v7, none, v9]) ⟨Same.refl HE, _, _, rfl⟩ (fun i σ G _ h => SqL.of (h.1 _ _ hlo)) ?_ ?_⟩
    · rintro i u σ G0 G hi ⟨sG, v7, v9, rfl⟩ ⟨rfl, hu⟩
      have tG := tnE.same sG
      obtain ⟨o, dd, tx, h1, h2, h3, h4, h5⟩ := (hodd u (List.mem_of_getElem? hu)).same sG
      refine ⟨_, rfl, _, rfl, _, rfl, lp, _, _, _, rfl, rfl, SqL.of tG.pa, atI_nat hptV, _, rfl, _, rfl, _, rfl, lp, _, _, _, rfl, rfl, SqL.of tG.pa, atI_nat hptV, x, d, wv, .str pt, u, some pt, o, _, rfl, tG.bo, rfl, (h1 _ (Same.refl _)).1, goodC_bad h4, tells_prt hptm hz, fun G1 s1 => ⟨_, rfl, iteF ?_⟩⟩
      have tG1 := tG.same s1
      have shp := shaped_s (prt_lay hptm)
      refine ⟨_, rfl, _, rfl, _, rfl, lp, _, _, _, rfl, rfl, SqL.of tG1.pa, atI_nat hptV, dd, .str pt, (h1 _ s1).2, .str pt, h2, shp, _, rfl, ?_⟩
      rcases h5 with he | ⟨he, hn⟩
      case' inl =>
        rw [he]
        refine iteF ?_
        have sR := s1
        clear tG1
        revert sR
        generalize G1 = G3
        intro sR
      case' inr =>
        rw [he]
        refine iteT ⟨_, rfl, _, rfl, _, rfl, _, rfl, x, d, wv, u, .str z, o, some z, tx, rfl, tG1.bo, (h1 _ s1).1, rfl, goodC_no hn, h3.same s1, fun G3 s3 => ⟨_, rfl, iteF ?_⟩⟩
        have sR := s1.trans s3
      all_goals
        have tR := tG.same sR
        obtain ⟨hj5, eT⟩ : j ≤ 4 ∧ ((4 : Int) - (j : Int)).toNat = 4 - j := ⟨by have : j < 5 := hj; omega, by omega⟩
        refine ⟨_, rfl, _, rfl, _, rfl, ll, _, rfl, SqL.of tR.la, fun a1 n1 => ?_⟩
        rw [cut_pre]
        refine ⟨_, rfl, by show 1 ≤ sizeLine; decide, fun a2 n2 => ?_⟩
        have r1 := same_new (o := .lst ((wv.list.map V.str).take j)) n1
        have r2 := same_new (o := .lst [u]) n2
        refine ⟨a1, a2, _, _, rfl, rfl, r2 _ _ upd_same, upd_same, by rw [List.length_take]; exact Nat.le_of_lt (small5 (by have : (wv.list.map V.str).length = 5 := rfl; show _ + 1 < 5000; omega)), fun a3 n3 => ?_⟩
        have r3 := same_new (o := .lst ((wv.list.map V.str).take j ++ [u])) n3
        refine ⟨by show 1 ≤ sizeLine; decide, fun a4 n4 => ?_⟩
        have r4 := same_new (o := .lst [V.str "x"]) n4
        refine ⟨_, rfl, _, _, rfl, rfl, a4, _, _, rfl, rfl, upd_same, by omega, by omega, ?_, fun a5 n5 => ?_⟩
        · rw [eT]
          exact Nat.le_of_lt (small5 (by show 1 * (4 - j) < 5000; omega))
        rw [eT]
        have r5 := same_new (o := .lst (List.replicate (4 - j) [V.str "x"]).flatten) n5
        refine ⟨a3, a5, _, _, rfl, rfl, (r4.trans r5) _ _ upd_same, upd_same, ?_, fun a6 n6 => ?_⟩
        · rw [← List.length_append, (bad_later (K := K) hokv hpt (h1 _ sR).1 h4).lu]
          exact Nat.le_of_lt (small5 (by decide))
        have r6 := same_new (o := .lst ((wv.list.map V.str).take j ++ [u] ++ (List.replicate (4 - j) [V.str "x"]).flatten)) n6
        have rr := ((((r1.trans r2).trans r3).trans r4).trans r5).trans r6
        refine ⟨a6, _, _, j, pt, rfl, SqL.of upd_same, bad_later (K := K) hokv hpt (h1 _ (sR.trans rr)).1 h4, fun r G7 nr s7 hr7 => ?_⟩
        have tS := tR.same (rr.trans s7)
        refine ⟨_, rfl, _, rfl, lp, _, _, _, rfl, rfl, SqL.of tS.pa, atI_nat hptV, by show 2 ≤ sizeLine; decide, fun r8 n8 => ?_⟩
        have shl : SeqAt.shaped (.list [.str pt, .bool true]) = true := by
          unfold SeqAt.shaped
          rw [PyData.canLay0, PyData.canLayAll0, PyData.canLayAll0, PyData.canLayAll0, prt_lay hptm, PyData.canLay0, PyData.depth, PyData.depthAll, PyData.depthAll, PyData.depthAll, PyData.depth, PyData.depth]
          decide
        have s8 := same_new (o := .lst [V.str pt, .bl true]) n8
        refine ⟨.list [.str pt, .bool true], .list [.str pt, .bool true], .lst (SqL.of (s8 _ _ hr7)) (.cons (.str _) (.cons (.bl _) .nil)), .lst (SqL.of upd_same) (.cons (.str _) (.cons (.bl _) .nil)), shl, shl, _, rfl, ?_⟩
        rw [eqv_self shl]
        exact iteF ⟨((sG.trans sR).trans (rr.trans s7)).trans s8, _, _, rfl⟩
    · rintro σ G ⟨sG, v7, v9, rfl⟩
      have tG := tnE.same sG
      refine ⟨_, rfl, _, rfl, x, d, wv, ll, rfl, tG.bo, hokv, tG.la, fun G2 s2 => ⟨_, rfl, iteT ⟨_, rfl, ?_⟩⟩⟩
      have tG2 := tG.same s2
      exact q ll wv G2 hokv nll0 tG2.po tG2.bo tG2.la fun b o h1 h2 e => (sG.trans s2) _ _ (kkE b o h1 h2 e)
end
end K1
namespace K1
open PySem PySem.Spec PyProof.Rows L2 Bk Tk
/-- what kinds of values are no books -/
structure KB (K : PySem.W.Frag) (CB : Addr) : Prop where
  non : PySem.W.kitOne K (.type "NoneType") (.ref CB) = some false
  lst : PySem.W.kitOne K (.type "list") (.ref CB) = some false
  sNon : PySem.W.subIn K (.type "NoneType") (.ref CB) = some false
  sLst : PySem.W.subIn K (.type "list") (.ref CB) = some false
theorem sameW_self (wd : Wds) : sameW wd wd = true := by
  unfold sameW
  simp
/-- what stands in a turn of the law -/
structure Ho (CB p x d l x2 d2 l0 : Addr) (wd w0 : Wds) (G : Hp) : Prop where
  po : Pool G p
  bo : BookD CB G x d wd
  ok : wd.Ok
  wo : G l = some (.lst (wd.list.map V.str))
  lp : l ≠ p
  b2 : BookD CB G x2 d2 w0
  ok0 : w0.Ok
  w2 : G l0 = some (.lst (w0.list.map V.str))
  lp0 : l0 ≠ p
  dd : d2 ≠ d
section
variable {CB p x d l x2 d2 l0 : Addr} {wd w0 : Wds} {G G' : Hp}
theorem Ho.same (h : Ho CB p x d l x2 d2 l0 wd w0 G) (s : Same G G') : Ho CB p x d l x2 d2 l0 wd w0 G' := ⟨h.po.same s, h.bo.same s, h.ok, s _ _ h.wo, h.lp, h.b2.same s, h.ok0, s _ _ h.w2, h.lp0, h.dd⟩
theorem Ho.turn {l' : Addr} {wd' : Wds} (h : Ho CB p x d l x2 d2 l0 wd w0 G) (k : Keep2 p d G G') (ok : wd'.Ok) (n : G l' = none) (po : Pool G' p) (bo : BookD CB G' x d wd') (wo : G' l' = some (.lst (wd'.list.map V.str))) : Ho CB p x d l' x2 d2 l0 wd' w0 G' := by
  obtain ⟨g, s, ep, _⟩ := h.po
  obtain ⟨dx, ex, ed⟩ := h.bo
  obtain ⟨dx2, ex2, ed2⟩ := h.b2
  refine ⟨po, bo, ok, wo, fun e => ?_, ⟨dx2, k _ _ (fun e => ?_) (fun e => ?_) ex2, k _ _ (fun e => ?_) h.dd ed2⟩, h.ok0, k _ _ h.lp0 (fun e => ?_) h.w2, h.lp0, h.dd⟩
  · rw [e, ep] at n
    cases n
  · rw [e, ep] at ex2
    cases ex2
  · rw [e, ed] at ex2
    cases ex2
  · rw [e, ep] at ed2
    cases ed2
  · have := h.w2
    rw [e, ed] at this
    cases this
end
theorem Keep2.same {p d : Addr} {H G G' : Hp} (s : Same H G) (np : H p = none) (nd : H d = none) (k : Keep2 p d G G') : Same H G' := fun b o e => k b o (ne_of_none e np) (ne_of_none e nd) (s b o e)
/-- a value that is no switch and no change -/
def OddI (K : PySem.W.Frag) (H : Hp) (u : V) : Prop := ∃ (o : Option Str) (t : Str), (∀ H', Same H H' → TxAt H' u o ∧ ∃ ty : String, TyX K H' u (.type ty) ∧ kitB ty "tuple" = some false) ∧ (∀ z, o = some z → z ∉ prts) ∧ TellsS K H u t
theorem OddI.same {K : PySem.W.Frag} {H H' : Hp} {u : V} (h : OddI K H u) (s : Same H H') : OddI K H' u := let ⟨o, t, h1, h2, h3⟩ := h; ⟨o, t, fun H2 s2 => h1 H2 (s.trans s2), h2, h3.same s⟩
def oddI (a : Addr) : List V := [.non, .str "Look", .int 1, .str "first ", .ref a]
theorem oddI_all {K : PySem.W.Frag} {H : Hp} {a : Addr} (ha : H a = some (.lst [.str "look"])) : ∀ u ∈ oddI a, OddI K H u := by
  intro u hu
  unfold oddI at hu
  simp only [List.mem_cons, List.not_mem_nil, or_false] at hu
  rcases hu with rfl | rfl | rfl | rfl | rfl
  · exact ⟨none, _, fun H' _ => ⟨.inl rfl, "NoneType", .base .non, by decide +kernel⟩, fun _ e => (by cases e), tells_of (fun _ _ => .non) (.inr (.inl rfl)) (by decide +kernel)⟩
  · exact ⟨some "Look", _, fun H' _ => ⟨rfl, "str", .base (.str _), by decide +kernel⟩, fun _ e => (by cases e; decide +kernel), tells_of (fun _ _ => .str "Look") (.inr (.inr ⟨_, rfl⟩)) (by decide +kernel)⟩
  · exact ⟨none, _, fun H' _ => ⟨.inr (.inr (.inl ⟨1, rfl⟩)), "int", .base (.int _), by decide +kernel⟩, fun _ e => (by cases e), tells_int 1 (by decide)⟩
  · exact ⟨some "first ", _, fun H' _ => ⟨rfl, "str", .base (.str _), by decide +kernel⟩, fun _ e => (by cases e; decide +kernel), tells_of (fun _ _ => .str "first ") (.inr (.inr ⟨_, rfl⟩)) (by decide +kernel)⟩
  · exact ⟨none, _, fun H' s => ⟨.inr (.inr (.inr (.inl ⟨a, _, rfl, s _ _ ha⟩))), "list", .base (.lst (s _ _ ha)), by decide +kernel⟩, fun _ e => (by cases e), tells_of (d := .list [.str "look"]) (fun H' s => .lst (SqL.of (s _ _ ha)) (.cons (.str _) .nil)) (.inl ⟨a, rfl⟩) (by decide +kernel)⟩
/-- an entry that is no change behind ("owner", "first") -/
def OddE (K : PySem.W.Frag) (H : Hp) (u : V) : Prop := ∃ (c : CH) (t : Str), (∀ H', Same H H' → ChAt K H' u c) ∧ okC c [("owner", "first")] = none ∧ TellsS K H u t
theorem OddE.same {K : PySem.W.Frag} {H H' : Hp} {u : V} (h : OddE K H u) (s : Same H H') : OddE K H' u := let ⟨c, t, h1, h2, h3⟩ := h; ⟨c, t, fun H2 s2 => h1 H2 (s.trans s2), h2, h3.same s⟩
def oddE (a1 a2 a3 a4 a5 : Addr) : List V := [.ref a1, .ref a2, .ref a3, .ref a4, .ref a5]
theorem oddE_all {K : PySem.W.Frag} {H : Hp} {a1 a2 a3 a4 a5 : Addr} (h1 : H a1 = some (.tup [.str "look", .str "first"])) (h2 : H a2 = some (.tup [.str "look"])) (h3 : H a3 = some (.lst [.str "look", .str "same"])) (h4 : H a4 = some (.tup [.str "looks", .str "same"])) (h5 : H a5 = some (.tup [.str "owner", .str "any"])) : ∀ u ∈ oddE a1 a2 a3 a4 a5, OddE K H u := by
  intro u hu
  unfold oddE at hu
  simp only [List.mem_cons, List.not_mem_nil, or_false] at hu
  rcases hu with rfl | rfl | rfl | rfl | rfl
  · exact ⟨some (some "look", some "first"), _, fun H' s => ⟨a1, _, _, rfl, SqT.of (s _ _ h1), rfl, rfl⟩, okC_bad (by decide +kernel), tells_of (d := .tuple [.str "look", .str "first"]) (fun H' s => .tup (SqT.of (s _ _ h1)) (.cons (.str _) (.cons (.str _) .nil))) (.inl ⟨_, rfl⟩) (by decide +kernel)⟩
  · exact ⟨none, _, fun H' s => .inr ⟨a2, _, rfl, SqT.of (s _ _ h2), by decide⟩, okC_bad rfl, tells_of (d := .tuple [.str "look"]) (fun H' s => .tup (SqT.of (s _ _ h2)) (.cons (.str _) .nil)) (.inl ⟨_, rfl⟩) (by decide +kernel)⟩
  · exact ⟨none, _, fun H' s => .inl ⟨"list", .base (.lst (s _ _ h3)), by decide +kernel⟩, okC_bad rfl, tells_of (d := .list [.str "look", .str "same"]) (fun H' s => .lst (SqL.of (s _ _ h3)) (.cons (.str _) (.cons (.str _) .nil))) (.inl ⟨_, rfl⟩) (by decide +kernel)⟩
  · exact ⟨some (some "looks", some "same"), _, fun H' s => ⟨a4, _, _, rfl, SqT.of (s _ _ h4), rfl, rfl⟩, okC_bad (by decide +kernel), tells_of (d := .tuple [.str "looks", .str "same"]) (fun H' s => .tup (SqT.of (s _ _ h4)) (.cons (.str _) (.cons (.str _) .nil))) (.inl ⟨_, rfl⟩) (by decide +kernel)⟩
  · exact ⟨some (some "owner", some "any"), _, fun H' s => ⟨a5, _, _, rfl, SqT.of (s _ _ h5), rfl, rfl⟩, okC_twice (by decide +kernel), tells_of (d := .tuple [.str "owner", .str "any"]) (fun H' s => .tup (SqT.of (s _ _ h5)) (.cons (.str _) (.cons (.str _) .nil))) (.inl ⟨_, rfl⟩) (by decide +kernel)⟩
/-- two entries of which the second is no change -/
theorem noch_two {K : PySem.W.Frag} {H : Hp} {l t : Addr} {pz : Str × Str} {u : V} {c : CH} (h1 : pz.1 ∈ prts) (h2 : pz.2 ∈ optW pz.1) (ht : H t = some (.tup [.str pz.1, .str pz.2])) (hl : H l = some (.lst [.ref t, u])) (hc : ∀ H', Same H H' → ChAt K H' u c) (ho : okC c [pz] = none) : NoCh K H (.ref l) u := by
  refine .inl ⟨l, _, [some (some pz.1, some pz.2), c], 1, rfl, hl, by show 2 ≤ 100; decide, rfl, ?_, chg_two h1 h2 ho, rfl⟩
  intro i e c' e1 e2 H' s
  match i, e1, e2 with
  | 0, e1, e2 =>
    cases e1
    cases e2
    exact ⟨t, _, _, rfl, SqT.of (s _ _ ht), rfl, rfl⟩
  | 1, e1, e2 =>
    cases e1
    cases e2
    exact hc H' s
  | i + 2, e1, _ => simp at e1
end K1
namespace K1
open PySem PySem.Spec PyProof.Rows L2 Bk Tk
theorem scLaw : FnScope ["_law_script", "_law_k", "_law_pool_here", "_law_words_here", "_law_book_here", "_law_held", "_law_first", "_law_turn", "_law_odd", "_law_entry"] ["_law_script"] (defScope sLaw) := ⟨rfl, rfl, rfl, by decide +kernel, rfl, by decide +kernel, by decide +kernel⟩
def spLaw (K : PySem.W.Frag) : Sp := fun vs H Q _ => ∃ (a : Addr) (ns : List Int), vs = [.ref a] ∧ SqL K H a (ns.map V.int) ∧ ns.length ≤ 63 ∧ ∀ H', Q (.bl true) H'
theorem seq_same {K : PySem.W.Frag} {H H' : Hp} {a : Addr} {xs : List V} (s : Same H H') (h : SqL K H a xs) : SqL K H' a xs := by
  rcases h with (h | ⟨o, h⟩) | h
  · exact .inl (.inl (s _ _ h))
  · exact .inl (.inr ⟨o, s _ _ h⟩)
  · exact .inr h
section
variable {P : Program} {w : World} {K : PySem.W.Frag} {mg : Str → Option Value} {base : Heap} {CB CE D fQ : Addr}
theorem ok_law {f fP fW fB fT fR fU fI fN : Addr} {fd fdP fdW fdB fdT fdR fdU fdI fdN fdQ : FuncData} (F : Fun K "law" "law" sLaw f fd) (T : Tx mg) (B : BF K mg CB) (Kb : KB K CB)
    (NE : Ow.NeC K CB fQ) (bQ : Binds K fdQ ["self", "other"] []) (GQ : FnOk P w K mg base CX0 1 fQ fdQ ["self", "other"] (spMEq K CB))
    (mP : mg "_law_pool" = some (.ref fP)) (kP : PySem.W.keepIn K (.ref fP) = true) (bP : Binds K fdP ["_law_script", "_law_k"] []) (GP : FnOk P w K mg base CX0 1 fP fdP ["_law_script", "_law_k"] (spPool K))
    (mW : mg "_law_words" = some (.ref fW)) (kW : PySem.W.keepIn K (.ref fW) = true) (bW : Binds K fdW ["_law_pool_here"] []) (GW : FnOk P w K mg base CX0 3 fW fdW ["_law_pool_here"] spWordsL)
    (mB : mg "_law_book" = some (.ref fB)) (kB : PySem.W.keepIn K (.ref fB) = true) (bB : Binds K fdB ["_law_words_here"] []) (GB : FnOk P w K mg base CX0 4 fB fdB ["_law_words_here"] (spBookL K CB))
    (mT : Meth K CB "twin" fT) (bT : Binds K fdT ["self"] []) (GT : FnOk P w K mg base CX0 4 fT fdT ["self"] (spTwin CB))
    (mR : mg "_law_right" = some (.ref fR)) (kR : PySem.W.keepIn K (.ref fR) = true) (bR : Binds K fdR ["_law_book_here", "_law_words_here"] []) (GR : FnOk P w K mg base CX0 5 fR fdR ["_law_book_here", "_law_words_here"] (spRight K CB))
    (mU : mg "_law_turned" = some (.ref fU)) (kU : PySem.W.keepIn K (.ref fU) = true) (bU : Binds K fdU ["_law_pool_here", "_law_book_here", "_law_words_here"] []) (GU : FnG 0 P w K mg base CX0 7 fU fdU ["_law_pool_here", "_law_book_here", "_law_words_here"] (spTurned K CB))
    (mI : mg "_law_no_item" = some (.ref fI)) (kI : PySem.W.keepIn K (.ref fI) = true) (bI : Binds K fdI ["_law_book_here", "_law_part"] []) (GI : FnG 0 P w K mg base CX0 5 fI fdI ["_law_book_here", "_law_part"] (spNoItem K CB))
    (mN : mg "_law_no_changes" = some (.ref fN)) (kN : PySem.W.keepIn K (.ref fN) = true) (bN : Binds K fdN ["_law_book_here", "_law_changes", "_law_due"] []) (GN : FnG 0 P w K mg base CX0 5 fN fdN ["_law_book_here", "_law_changes", "_law_due"] (spNoCh K CB)) :
    FnG 0 P w K mg base CX0 8 f fd ["_law_script"] (spLaw K) := by
  refine okGP F scLaw (fun vs H Q E h => ?_) (fun cdv A outer s H vs Q E gs hr h => ?_)
  · obtain ⟨a, ns, rfl, _⟩ := h
    rfl
  · obtain ⟨a, ns, rfl, hS, hlen, q⟩ := h
    have hr1 : Room 1 _ := hr.mono (by decide)
    have hr2 : Room 2 _ := hr.mono (by decide)
    have hr3 : Room 3 _ := hr.mono (by decide)
    have hr4 : Room 4 _ := hr.mono (by decide)
    have hr5 : Room 5 _ := hr.mono (by decide)
    refine ⟨_, pss_cons (ps_for (passes_of rfl) rfl (pi_range1 (by rfl) T.range (pa_cons (pe_callB (call_max2 rfl) (by rfl) T.max boot_max (pa_cons pe_int (pa_cons (pe_callB (call_min2 rfl) (by rfl) T.min boot_min (pa_cons (pe_callB call_len_seq (by rfl) T.len PySem.boot_len (pa_cons (pv 0) pa_nil)) (pa_cons pe_int pa_nil))) pa_nil))) pa_nil)) (pg_name (i := 1) scLaw.nd rfl (Or.inl rfl))
        (pss_cons (ps_set (i := 2) scLaw.nd rfl (Or.inl rfl) (pe_call GP hr1 (by rfl) mP kP bP .nil pass0 (pa_cons (pv 0) (pa_cons (pv 1) pa_nil)))) <|
        pss_cons (ps_set (i := 3) scLaw.nd rfl (Or.inl rfl) (pe_call GW hr3 (by rfl) mW kW bW .nil pass0 (pa_cons (pv 2) pa_nil))) <|
        pss_cons (ps_set (i := 4) scLaw.nd rfl (Or.inl rfl) (pe_call GB hr4 (by rfl) mB kB bB .nil pass0 (pa_cons (pv 3) pa_nil))) <|
        pss_cons (ps_set (i := 5) scLaw.nd rfl (Or.inl rfl) (pe_meth0 (pv 4) B.cl mT GT hr4 bT .nil pass0)) <|
        pss_cons (ps_if (PW.pt (pw_or (pt_not (pt_val (pe_call GR hr5 (by rfl) mR kR bR .nil pass0 (pa_cons (pv 4) (pa_cons (pv 3) pa_nil))))) (pw_or1 (pt_cmpR (Ow.op_neO NE GQ hr2 bQ pass0) (pv 5) (pv 4) (nomark _))))) (pss_one (ps_ret pe_bl)) pss_nil) <|
        pss_cons (ps_set (i := 6) scLaw.nd rfl (Or.inl rfl) (pv 3)) <|
        pss_cons (ps_for (passes_of rfl) rfl (pi_range1 (by rfl) T.range (pa_cons pe_int pa_nil)) (pg_name (i := 7) scLaw.nd rfl (Or.inl rfl))
          (pss_cons (ps_set (i := 3) scLaw.nd rfl (Or.inl rfl) (pe_callG gs GU hr (by rfl) mU kU bU pass0 (pa_cons (pv 2) (pa_cons (pv 4) (pa_cons (pv 3) pa_nil))))) <|
          pss_one (ps_if (pt_cmpR op_isN (pv 3) pe_non (nomark _)) (pss_one (ps_ret pe_bl)) pss_nil))) <|
        pss_cons (ps_for (passes_of rfl) rfl (pi_list (pe_lst (pa_cons pe_non (pa_cons pe_str (pa_cons pe_int (pa_cons pe_str (pa_cons (pe_lst (pa_cons pe_str pa_nil)) pa_nil))))))) (pg_name (i := 8) scLaw.nd rfl (Or.inl rfl))
          (pss_cons (ps_if (pt_not (pt_val (pe_callG gs GI hr5 (by rfl) mI kI bI pass0 (pa_cons (pv 4) (pa_cons (pv 8) pa_nil))))) (pss_one (ps_ret pe_bl)) pss_nil) <|
          pss_one (ps_if (pt_not (pt_val (pe_callG gs GN hr5 (by rfl) mN kN bN pass0 (pa_cons (pv 4) (pa_cons (pe_lst (pa_cons (pe_tup (pa_cons pe_str (pa_cons pe_str pa_nil))) (pa_cons (pv 8) pa_nil))) (pa_cons (pv 8) pa_nil)))))) (pss_one (ps_ret pe_bl)) pss_nil))) <|
        pss_cons (ps_for (passes_of rfl) rfl (pi_list (pe_lst (pa_cons (pe_tup (pa_cons pe_str (pa_cons pe_str pa_nil))) (pa_cons (pe_tup (pa_cons pe_str pa_nil)) (pa_cons (pe_lst (pa_cons pe_str (pa_cons pe_str pa_nil))) (pa_cons (pe_tup (pa_cons pe_str (pa_cons pe_str pa_nil))) (pa_cons (pe_tup (pa_cons pe_str (pa_cons pe_str pa_nil))) pa_nil))))))) (pg_name (i := 9) scLaw.nd rfl (Or.inl rfl))
          (pss_one (ps_if (pt_not (pt_val (pe_callG gs GN hr5 (by rfl) mN kN bN pass0 (pa_cons (pv 4) (pa_cons (pe_lst (pa_cons (pe_tup (pa_cons pe_str (pa_cons pe_str pa_nil))) (pa_cons (pv 9) pa_nil))) (pa_cons (pv 9) pa_nil)))))) (pss_one (ps_ret pe_bl)) pss_nil))) <|
        pss_cons (ps_if (PW.pt (pw_or (pt_not (pt_val (pe_callG gs GN hr5 (by rfl) mN kN bN pass0 (pa_cons (pv 4) (pa_cons (pe_tup (pa_cons (pe_tup (pa_cons pe_str (pa_cons pe_str pa_nil))) pa_nil)) (pa_cons pe_non pa_nil))))))
          (pw_or1 (pt_not (pt_val (pe_callG gs GN hr5 (by rfl) mN kN bN pass0 (pa_cons (pv 4) (pa_cons pe_str (pa_cons pe_non pa_nil))))))))) (pss_one (ps_ret pe_bl)) pss_nil) <|
        pss_cons (ps_if (PW.pt (pw_or (pt_not (pt_val (pe_call GR hr5 (by rfl) mR kR bR .nil pass0 (pa_cons (pv 4) (pa_cons (pv 3) pa_nil))))) (pw_or (pt_not (pt_val (pe_call GR hr5 (by rfl) mR kR bR .nil pass0 (pa_cons (pv 5) (pa_cons (pv 6) pa_nil)))))
          (pw_or1 (pt_cmpR (op_eqL NE.eq GQ hr1 bQ pass0) (pv 4) (pv 3) (nomark _)))))) (pss_one (ps_ret pe_bl)) pss_nil) <|
        pss_one (ps_if (pt_cmpR (Ow.op_eqO NE.eq GQ hr1 bQ pass0) (pv 4) pe_non (nomark _)) (pss_one (ps_ret pe_bl)) pss_nil)))
      (pss_one (ps_ret pe_bl)), ?_⟩
    refine ⟨_, rfl, a, _, rfl, .inl hS, _, _, rfl, _, _, rfl, ?_⟩
    rw [List.length_map]
    generalize hN : (if (if (5 : Int) < ((ns.length : Nat) : Int) then (5 : Int) else ((ns.length : Nat) : Int)) > 1 then (if (5 : Int) < ((ns.length : Nat) : Int) then (5 : Int) else ((ns.length : Nat) : Int)) else (1 : Int)) = N
    have hN6 : 1 ≤ N ∧ N ≤ 5 := by
      rw [← hN]
      constructor
      · split
        · omega
        · omega
      · split
        · split <;> omega
        · omega
    refine ⟨N, rfl, by omega, by omega, ?_⟩
    refine for_range (lo := 0) (n := N.toNat) (fun i σ H' => ∃ o1 o2 o3 o4 o5 o6 o7 o8 o9, σ = [some (.ref a), o1, o2, o3, o4, o5, o6, o7, o8, o9] ∧ Same H H') ⟨_, _, _, _, _, _, _, _, _, rfl, Same.refl H⟩ ?_ ?_
    · rintro i σ H0 hi ⟨o1, o2, o3, o4, o5, o6, o7, o8, o9, rfl, sm0⟩
      refine ⟨_, rfl, _, rfl, a, ns, i, by rw [Int.zero_add]; rfl, seq_same sm0 hS, by omega, fun p g s0 s0a s0b np => ?_⟩
      have npH : H p = none := none_of sm0 np
      have sm1 := sm0.trans (same_new (o := .lst [.int g, .int s0]) np)
      have hp1 : Pool (upd H0 p (.lst [.int g, .int s0])) p := ⟨g, s0, upd_same, s0a, s0b⟩
      revert sm1 hp1
      generalize upd H0 p (.lst [.int g, .int s0]) = H1
      intro sm1 hp1
      refine ⟨_, rfl, p, rfl, hp1, fun l0 w0 H2 ok0 nl hp2 k2 hl => ?_⟩
      have sm2 : Same H H2 := same_keep sm1 npH k2
      have l0p : l0 ≠ p := ne_pool hp1 nl
      refine ⟨_, rfl, l0, w0, rfl, SqL.of hl, ok0, fun x d H3 nx nd s3 hb => ?_⟩
      have ndH : H d = none := none_of sm2 nd
      obtain ⟨dx, hx, hd⟩ := id hb
      refine ⟨_, rfl, x, dx, _, rfl, hx, rfl, x, d, w0, rfl, hb, ok0, fun x2 d2 H4 nx2 nd2 s4 hb2 => ?_⟩
      have ndd : d2 ≠ d := (ne_of_none hd nd2).symm
      have ho : Ho CB p x d l0 x2 d2 l0 w0 w0 H4 := ⟨(hp2.same s3).same s4, hb.same s4, ok0, s4 _ _ (s3 _ _ hl), l0p, hb2, ok0, s4 _ _ (s3 _ _ hl), l0p, ndd⟩
      have sm4 := (sm2.trans s3).trans s4
      clear hl hp2 k2 nl nx nd hb hx hd nx2 nd2 s3 s4 hb2 sm2
      refine ⟨_, rfl, _, rfl, x, d, w0, l0, rfl, ho.bo, ok0, ho.wo, fun H5 s5 => ⟨_, rfl, iteF ?_⟩⟩
      have ho5 := ho.same s5
      obtain ⟨dx5, hx5, _⟩ := id ho5.bo
      obtain ⟨dy5, hy5, _⟩ := id ho5.b2
      refine ⟨_, rfl, _, rfl, x2, dy5, _, rfl, hy5, .inl ⟨x, dx5, _, rfl, hx5⟩, x2, d2, w0, .ref x, rfl, ho5.b2, .inl ⟨x, d, w0, rfl, ho5.bo, _, rfl, _, rfl, ?_⟩⟩
      rw [sameW_self]
      refine iteF ⟨_, rfl, ?_⟩
      have sm5 := sm4.trans s5
      clear ho hx5 hy5 s5 sm4
      -- the turns
      refine ⟨4, rfl, by decide, by decide, ?_⟩
      refine for_range (lo := 0) (n := 4) (fun _ σ G => ∃ l wd v7 v8 v9, σ = [some (.ref a), some (.int (0 + i)), some (.ref p), some (.ref l), some (.ref x), some (.ref x2), some (.ref l0), v7, v8, v9] ∧ Ho CB p x d l x2 d2 l0 wd w0 G ∧ Same H G) ⟨l0, w0, _, _, _, rfl, ho5, sm5⟩ ?_ ?_
      · rintro j σ G hj ⟨l, wd, v7, v8, v9, rfl, hg, sg⟩
        refine ⟨_, rfl, _, rfl, _, rfl, p, x, d, l, wd, rfl, hg.po, hg.bo, hg.ok, hg.wo, hg.lp, fun l' wd' G' ok' nl' po' bo' wo' kk => ?_⟩
        refine ⟨_, rfl, rfl, _, rfl, ?_⟩
        rw [decide_eq_false (show ¬ (V.ref l' = .non) from fun e => by cases e)]
        exact iteF ⟨l', wd', _, _, _, rfl, hg.turn kk ok' nl' po' bo' wo', Keep2.same sg npH ndH kk⟩
      rintro σ G ⟨l, wd, v7, v8, v9, rfl, hg, sg⟩
      -- no switches
      refine ⟨by show 1 ≤ sizeLine; decide, fun la nla => ⟨by show 5 ≤ sizeLine; decide, fun lo nlo => ?_⟩⟩
      have sa := same_new (o := .lst [V.str "look"]) nla
      have so := same_new (o := .lst [V.non, .str "Look", .int 1, .str "first ", .ref la]) nlo
      have hodd := oddI_all (K := K) (so _ _ (upd_same : upd G la (.lst [V.str "look"]) la = _))
      have hlo : upd (upd G la (.lst [V.str "look"])) lo (.lst [V.non, .str "Look", .int 1, .str "first ", .ref la]) lo = some (.lst (oddI la)) := upd_same
      have hg2 := hg.same (sa.trans so)
      have sg2 := sg.trans (sa.trans so)
      revert hodd hlo hg2 sg2
      generalize upd (upd G la (.lst [V.str "look"])) lo (.lst [V.non, .str "Look", .int 1, .str "first ", .ref la]) = G2
      intro hodd hlo hg2 sg2
      clear sa so nla nlo hg sg
      refine ⟨lo, rfl, ⟨_, SqL.of hlo⟩, for_it (walk_list (K := K) (a := lo) (xs := oddI la)) (fun _ σ G' => Same G2 G' ∧ ∃ v7 v8 v9, σ = [some (.ref a), some (.int (0 + i)), some (.ref p), some (.ref l), some (.ref x), some (.ref x2), some (.ref l0), v7, v8, v9]) ⟨Same.refl G2, _, _, _, rfl⟩ (fun _ σ G' _ h => SqL.of (h.1 _ _ hlo)) ?_ ?_⟩
      · rintro j u σ G0 G3 hj ⟨s3, v7, v8, v9, rfl⟩ ⟨rfl, hu⟩
        have hg3 := hg2.same s3
        obtain ⟨o, tx, h1, h2, h3⟩ := (hodd u (List.mem_of_getElem? hu)).same s3
        refine ⟨_, rfl, _, rfl, x, d, wd, u, o, tx, rfl, hg3.bo, (h1 _ (Same.refl _)).1, h2, h3, fun G4 s4 => ⟨_, rfl, iteF ?_⟩⟩
        have hg4 := hg3.same s4
        refine ⟨_, rfl, by show 2 ≤ sizeLine; decide, fun t1 nt1 => ⟨_, rfl, by show 2 ≤ sizeLine; decide, fun t2 nt2 => ?_⟩⟩
        have r1 := same_new (o := .tup [V.str "look", .str "same"]) nt1
        have r2 := same_new (o := .lst [V.ref t1, u]) nt2
        have rr := r1.trans r2
        refine ⟨_, rfl, x, d, wd, .ref t2, u, tx, rfl, (hg4.same rr).bo, hg4.ok, noch_two (pz := ("look", "same")) (c := none) (by decide +kernel) (by decide +kernel) (r2 _ _ upd_same) upd_same (fun H' s' => .inl (h1 H' ((s4.trans rr).trans s')).2) (okC_bad rfl), h3.same (s4.trans rr), fun G5 s5 => ⟨_, rfl, iteF ⟨((s3.trans s4).trans rr).trans s5, _, _, _, rfl⟩⟩⟩
      rintro σ G3 ⟨s3, v7, v8, v9, rfl⟩
      have hg3 := hg2.same s3
      have sg3 := sg2.trans s3
      clear hodd hlo hg2 sg2 s3
      -- no changes
      refine ⟨by show 2 ≤ sizeLine; decide, fun a1 n1 => ⟨by show 1 ≤ sizeLine; decide, fun a2 n2 => ⟨by show 2 ≤ sizeLine; decide, fun a3 n3 => ⟨by show 2 ≤ sizeLine; decide, fun a4 n4 => ⟨by show 2 ≤ sizeLine; decide, fun a5 n5 => ⟨by show 5 ≤ sizeLine; decide, fun lo nlo => ?_⟩⟩⟩⟩⟩⟩
      have r1 := same_new (o := .tup [V.str "look", .str "first"]) n1
      have r2 := same_new (o := .tup [V.str "look"]) n2
      have r3 := same_new (o := .lst [V.str "look", .str "same"]) n3
      have r4 := same_new (o := .tup [V.str "looks", .str "same"]) n4
      have r5 := same_new (o := .tup [V.str "owner", .str "any"]) n5
      have r6 := same_new (o := .lst [V.ref a1, .ref a2, .ref a3, .ref a4, .ref a5]) nlo
      have rr := ((((r1.trans r2).trans r3).trans r4).trans r5).trans r6
      have hodd := oddE_all (K := K) (((((r2.trans r3).trans r4).trans r5).trans r6) _ _ upd_same) ((((r3.trans r4).trans r5).trans r6) _ _ upd_same) (((r4.trans r5).trans r6) _ _ upd_same) ((r5.trans r6) _ _ upd_same) (r6 _ _ upd_same)
      have hlo := (upd_same : upd (upd (upd (upd (upd (upd G3 a1 (.tup [V.str "look", .str "first"])) a2 (.tup [V.str "look"])) a3 (.lst [V.str "look", .str "same"])) a4 (.tup [V.str "looks", .str "same"])) a5 (.tup [V.str "owner", .str "any"])) lo (.lst [V.ref a1, .ref a2, .ref a3, .ref a4, .ref a5]) lo = some (.lst (oddE a1 a2 a3 a4 a5)))
      have hg4 := hg3.same rr
      have sg4 := sg3.trans rr
      revert hodd hlo hg4 sg4
      generalize upd (upd (upd (upd (upd (upd G3 a1 (.tup [V.str "look", .str "first"])) a2 (.tup [V.str "look"])) a3 (.lst [V.str "look", .str "same"])) a4 (.tup [V.str "looks", .str "same"])) a5 (.tup [V.str "owner", .str "any"])) lo (.lst [V.ref a1, .ref a2, .ref a3, .ref a4, .ref a5]) = G4
      intro hodd hlo hg4 sg4
      clear rr r6 r5 r4 r3 r2 r1 hg3 sg3 n1 n2 n3 n4 n5 nlo
      refine ⟨lo, rfl, ⟨_, SqL.of hlo⟩, for_it (walk_list (K := K) (a := lo) (xs := oddE a1 a2 a3 a4 a5)) (fun _ σ G' => Same G4 G' ∧ ∃ v7 v8 v9, σ = [some (.ref a), some (.int (0 + i)), some (.ref p), some (.ref l), some (.ref x), some (.ref x2), some (.ref l0), v7, v8, v9]) ⟨Same.refl G4, _, _, _, rfl⟩ (fun _ σ G' _ h => SqL.of (h.1 _ _ hlo)) ?_ ?_⟩
      · rintro j u σ G0 G5 hj ⟨s5, v7, v8, v9, rfl⟩ ⟨rfl, hu⟩
        have hg5 := hg4.same s5
        obtain ⟨c, tx, h1, h2, h3⟩ := (hodd u (List.mem_of_getElem? hu)).same s5
        refine ⟨_, rfl, by show 2 ≤ sizeLine; decide, fun t1 nt1 => ⟨_, rfl, by show 2 ≤ sizeLine; decide, fun t2 nt2 => ?_⟩⟩
        have r1 := same_new (o := .tup [V.str "owner", .str "first"]) nt1
        have r2 := same_new (o := .lst [V.ref t1, u]) nt2
        have rr := r1.trans r2
        refine ⟨_, rfl, x, d, wd, .ref t2, u, tx, rfl, (hg5.same rr).bo, hg5.ok, noch_two (pz := ("owner", "first")) (c := c) (by decide +kernel) (by decide +kernel) (r2 _ _ upd_same) upd_same (fun H' s' => h1 H' (rr.trans s')) h2, h3.same rr, fun G6 s6 => ⟨_, rfl, iteF ⟨(s5.trans rr).trans s6, _, _, _, rfl⟩⟩⟩
      rintro σ G5 ⟨s5, v7, v8, v9, rfl⟩
      have hg5 := hg4.same s5
      have sg5 := sg4.trans s5
      clear hodd hlo hg4 sg4 s5
      -- a tuple, a text
      have tN : ∀ G : Hp, TellsS K G .non (PyData.shown .none) := fun G => tells_of (fun _ _ => .non) (.inr (.inl rfl)) (by decide +kernel)
      refine ⟨_, rfl, by show 2 ≤ sizeLine; decide, fun t1 nt1 => ⟨by show 1 ≤ sizeLine; decide, fun t2 nt2 => ?_⟩⟩
      have r1 := same_new (o := .tup [V.str "look", .str "same"]) nt1
      have r2 := same_new (o := .tup [V.ref t1]) nt2
      have rr := r1.trans r2
      refine ⟨x, d, wd, .ref t2, .non, _, rfl, (hg5.same rr).bo, hg5.ok, .inr ⟨⟨"tuple", .base (.tup upd_same), by decide +kernel⟩, rfl⟩, tN _, fun G6 s6 => ⟨_, rfl, iteF ?_⟩⟩
      have hg6 := hg5.same (rr.trans s6)
      refine ⟨_, rfl, x, d, wd, .str "look", .non, _, rfl, hg6.bo, hg6.ok, .inr ⟨⟨"str", .base (.str _), by decide +kernel⟩, rfl⟩, tN _, fun G7 s7 => ⟨_, rfl, iteF ?_⟩⟩
      have hg7 := hg6.same s7
      have sg7 := (sg5.trans (rr.trans s6)).trans s7
      -- the end of a turn
      refine ⟨_, rfl, _, rfl, x, d, wd, l, rfl, hg7.bo, hg7.ok, hg7.wo, fun G8 s8 => ⟨_, rfl, iteF ?_⟩⟩
      have hg8 := hg7.same s8
      refine ⟨_, rfl, _, rfl, x2, d2, w0, l0, rfl, hg8.b2, hg8.ok0, hg8.w2, fun G9 s9 => ⟨_, rfl, iteF ?_⟩⟩
      have hg9 := hg8.same s9
      obtain ⟨dx9, hx9, _⟩ := id hg9.bo
      refine ⟨_, rfl, _, rfl, x, dx9, _, l, _, rfl, hx9, rfl, hg9.wo, Kb.sLst, x, d, wd, .ref l, rfl, hg9.bo, .inr ⟨⟨"list", .base (.lst hg9.wo), Kb.lst⟩, _, rfl, _, rfl, iteF ?_⟩⟩
      refine ⟨_, rfl, x, dx9, _, rfl, hx9, .inr (.inr ⟨rfl, Kb.sNon⟩), x, d, wd, .non, rfl, hg9.bo, .inr ⟨⟨"NoneType", .base .non, Kb.non⟩, _, rfl, _, rfl, iteF ?_⟩⟩
      exact ⟨_, _, _, _, _, _, _, _, _, rfl, (sg7.trans s8).trans s9⟩
    · rintro σ H0 _
      exact q H0
end
end K1
namespace K1
open PySem PySem.Spec PyProof.Rows L2 Bk Tk
theorem kit_self {K : PySem.W.Frag} {C : Addr} : PySem.W.kitOne K (.ref C) (.ref C) = some true := by
  unfold PySem.W.kitOne
  rw [if_pos (by simp)]
theorem cls_own {K : PySem.W.Frag} {C : Addr} (h : PySem.W.isClsIn K C = true) : (PySem.W.clsIn K C).isSome = true := by
  first | exact h | (unfold PySem.W.isClsIn at h; exact h)
theorem kit_own {K : PySem.W.Frag} {C : Addr} {n : String} {b : Bool} (h1 : PySem.W.isClsIn K C = true) (h2 : PySem.W.typeIn K (.ref C) = some (.type "type")) (h3 : PySem.W.subIn K (.type n) (.ref C) = some b) : PySem.W.kitOne K (.type n) (.ref C) = some b := by
  unfold PySem.W.kitOne
  rw [if_neg (by simp)]
  unfold PySem.W.kitCls
  show (if _ then _ else _) = _
  rw [cls_own h1, h2, if_pos (by simp), h3]
theorem exm_own {K : PySem.W.Frag} {D C : Addr} {b : Bool} (h0 : PySem.W.subIn K (.ref C) (.type "BaseException") = some true) (h1 : PySem.W.isClsIn K C = true) (h2 : PySem.W.typeIn K (.ref C) = some (.type "type")) (h3 : PySem.W.subIn K (.ref D) (.ref C) = some b) : PySem.W.exmOne K (.ref D) (.ref C) = some b := by
  unfold PySem.W.exmOne
  rw [h0, if_pos (by simp)]
  unfold PySem.W.kitCls
  show (if _ then _ else _) = _
  rw [cls_own h1, h2, if_pos (by simp), h3]
theorem kit_cls {K : PySem.W.Frag} {D C : Addr} {b : Bool} (hn : b = false → (D == C) = false) (h1 : PySem.W.isClsIn K C = true) (h2 : PySem.W.typeIn K (.ref C) = some (.type "type")) (h3 : PySem.W.subIn K (.ref D) (.ref C) = some b) : PySem.W.kitOne K (.ref D) (.ref C) = some b := by
  unfold PySem.W.kitOne
  by_cases c : D = C
  · subst c
    cases b with
    | true => rw [if_pos (by simp)]
    | false =>
      have := hn rfl
      simp at this
  · rw [if_neg (by simp [c])]
    unfold PySem.W.kitCls
    show (if _ then _ else _) = _
    rw [cls_own h1, h2, if_pos (by simp), h3]
theorem sqT_of {K : PySem.W.Frag} {T : Addr} {od : Option Addr} {its : Array Value} {m : Nat} {sl : Array (Option Value)} {ws : List Str} (l : K.lookup T = some ⟨.type "tuple", od, .seq its m, sl⟩) (z : its.size ≤ sizeLine) (v : Vals (ws.map V.str) its.toList) (H : Hp) : SqT K H T (ws.map V.str) :=
  .inr ⟨_, its, m, l, rfl, rfl, z, v⟩
theorem all_mk {l : PySem.W.OpenLaw} {w : World} {K : PySem.W.Frag} {h : Heap} {mg : Str → Option Value} {fa CB CE CS D T0 T1 T2 T3 T4 f1 f2 f3 f4 f5 f6 f7 f8 f9 f10 f11 f12 f13 f14 f15 fPo fPl fPc fPn fPe fMi fMs fMw fMt fMc fMd fMg fMq fE qPo qPl qPc qPn qPe : Addr} (X : K.In h) (G : h.Ns mainGlobals mg) (hfa : mg "law" = some (.ref fa))
    {od1 an1 od2 an2 od3 an3 od4 an4 od5 an5 od6 an6 od7 an7 od8 an8 od9 an9 od10 an10 od11 an11 od12 an12 od13 an13 od14 an14 od15 an15 odPo anPo odPl anPl odPc anPc odPn anPn odPe anPe odMi anMi odMs anMs odMw anMw odMt anMt odMc anMc odMd anMd odMg anMg odMq anMq odE anE : Option Addr} {sl1 sl2 sl3 sl4 sl5 sl6 sl7 sl8 sl9 sl10 sl11 sl12 sl13 sl14 sl15 slPo slPl slPc slPn slPe slMi slMs slMw slMt slMc slMd slMg slMq slE : Array (Option Value)} {oc1 kV1 dc1 pm1 cd1 ct1 oc2 kV2 dc2 pm2 cd2 ct2 oc3 kV3 dc3 pm3 cd3 ct3 oc4 kV4 dc4 pm4 cd4 ct4 oc5 kV5 dc5 pm5 cd5 ct5 oc6 kV6 dc6 pm6 cd6 ct6 oc7 kV7 dc7 pm7 cd7 ct7 oc8 kV8 dc8 pm8 cd8 ct8 oc9 kV9 dc9 pm9 cd9 ct9 oc10 kV10 dc10 pm10 cd10 ct10 oc11 kV11 dc11 pm11 cd11 ct11 oc12 kV12 dc12 pm12 cd12 ct12 oc13 kV13 dc13 pm13 cd13 ct13 oc14 kV14 dc14 pm14 cd14 ct14 oc15 kV15 dc15 pm15 cd15 ct15 ocPo kVPo dcPo pmPo cdPo ctPo ocPl kVPl dcPl pmPl cdPl ctPl ocPc kVPc dcPc pmPc cdPc ctPc ocPn kVPn dcPn pmPn cdPn ctPn ocPe kVPe dcPe pmPe cdPe ctPe ocMi kVMi dcMi pmMi cdMi ctMi ocMs kVMs dcMs pmMs cdMs ctMs ocMw kVMw dcMw pmMw cdMw ctMw ocMt kVMt dcMt pmMt cdMt ctMt ocMc kVMc dcMc pmMc cdMc ctMc ocMd kVMd dcMd pmMd cdMd ctMd ocMg kVMg dcMg pmMg cdMg ctMg ocMq kVMq dcMq pmMq cdMq ctMq ocE kVE dcE pmE cdE ctE : Value} {rePo rePl rePc rePn rePe : List Value} {es : Array DictEntry} {nD : Nat} {nmE qE : Str} {nsE : Addr} {bsE bmE : List Value} {kE0 kE1 kE2 kE3 kE5 : Option Value} {snE : List Str} {subE : List Value} {abE : Bool} {colE : Option Bool} {ddE : Option Addr} {odT0 : Option Addr} {its0 : Array Value} {mT0 : Nat} {slT0 : Array (Option Value)} {odT1 : Option Addr} {its1 : Array Value} {mT1 : Nat} {slT1 : Array (Option Value)} {odT2 : Option Addr} {its2 : Array Value} {mT2 : Nat} {slT2 : Array (Option Value)} {odT3 : Option Addr} {its3 : Array Value} {mT3 : Nat} {slT3 : Array (Option Value)} {odT4 : Option Addr} {its4 : Array Value} {mT4 : Nat} {slT4 : Array (Option Value)}
    (a1 : PySem.W.nsIn K mainGlobals "_is_switch" = some (some (.ref f1))) (l1 : K.lookup f1 = some ⟨oc1, od1, .func (PySem.W.fnOf "_is_switch" "_is_switch" (defArgs sIsSwitch) (defBody sIsSwitch) (defScope sIsSwitch) .none kV1 dc1 pm1 an1 cd1 ct1), sl1⟩) (c1 : PySem.W.codeIn K cd1 "_is_switch" = true) (k1 : PySem.W.keepIn K (.ref f1) = true)
    (a2 : PySem.W.nsIn K mainGlobals "_is_word" = some (some (.ref f2))) (l2 : K.lookup f2 = some ⟨oc2, od2, .func (PySem.W.fnOf "_is_word" "_is_word" (defArgs sIsWord) (defBody sIsWord) (defScope sIsWord) .none kV2 dc2 pm2 an2 cd2 ct2), sl2⟩) (c2 : PySem.W.codeIn K cd2 "_is_word" = true) (k2 : PySem.W.keepIn K (.ref f2) = true)
    (a3 : PySem.W.nsIn K mainGlobals "_is_change" = some (some (.ref f3))) (l3 : K.lookup f3 = some ⟨oc3, od3, .func (PySem.W.fnOf "_is_change" "_is_change" (defArgs sIsChange) (defBody sIsChange) (defScope sIsChange) .none kV3 dc3 pm3 an3 cd3 ct3), sl3⟩) (c3 : PySem.W.codeIn K cd3 "_is_change" = true) (k3 : PySem.W.keepIn K (.ref f3) = true)
    (a4 : PySem.W.nsIn K mainGlobals "_law_pool" = some (some (.ref f4))) (l4 : K.lookup f4 = some ⟨oc4, od4, .func (PySem.W.fnOf "_law_pool" "_law_pool" (defArgs sPool) (defBody sPool) (defScope sPool) .none kV4 dc4 pm4 an4 cd4 ct4), sl4⟩) (c4 : PySem.W.codeIn K cd4 "_law_pool" = true) (k4 : PySem.W.keepIn K (.ref f4) = true)
    (a5 : PySem.W.nsIn K mainGlobals "_law_draw" = some (some (.ref f5))) (l5 : K.lookup f5 = some ⟨oc5, od5, .func (PySem.W.fnOf "_law_draw" "_law_draw" (defArgs sDraw) (defBody sDraw) (defScope sDraw) .none kV5 dc5 pm5 an5 cd5 ct5), sl5⟩) (c5 : PySem.W.codeIn K cd5 "_law_draw" = true) (k5 : PySem.W.keepIn K (.ref f5) = true)
    (a6 : PySem.W.nsIn K mainGlobals "_law_pick" = some (some (.ref f6))) (l6 : K.lookup f6 = some ⟨oc6, od6, .func (PySem.W.fnOf "_law_pick" "_law_pick" (defArgs sPick) (defBody sPick) (defScope sPick) .none kV6 dc6 pm6 an6 cd6 ct6), sl6⟩) (c6 : PySem.W.codeIn K cd6 "_law_pick" = true) (k6 : PySem.W.keepIn K (.ref f6) = true)
    (a7 : PySem.W.nsIn K mainGlobals "_law_words" = some (some (.ref f7))) (l7 : K.lookup f7 = some ⟨oc7, od7, .func (PySem.W.fnOf "_law_words" "_law_words" (defArgs sWordsL) (defBody sWordsL) (defScope sWordsL) .none kV7 dc7 pm7 an7 cd7 ct7), sl7⟩) (c7 : PySem.W.codeIn K cd7 "_law_words" = true) (k7 : PySem.W.keepIn K (.ref f7) = true)
    (a8 : PySem.W.nsIn K mainGlobals "_law_book" = some (some (.ref f8))) (l8 : K.lookup f8 = some ⟨oc8, od8, .func (PySem.W.fnOf "_law_book" "_law_book" (defArgs sBookL) (defBody sBookL) (defScope sBookL) .none kV8 dc8 pm8 an8 cd8 ct8), sl8⟩) (c8 : PySem.W.codeIn K cd8 "_law_book" = true) (k8 : PySem.W.keepIn K (.ref f8) = true)
    (a9 : PySem.W.nsIn K mainGlobals "_law_right" = some (some (.ref f9))) (l9 : K.lookup f9 = some ⟨oc9, od9, .func (PySem.W.fnOf "_law_right" "_law_right" (defArgs sRightL) (defBody sRightL) (defScope sRightL) .none kV9 dc9 pm9 an9 cd9 ct9), sl9⟩) (c9 : PySem.W.codeIn K cd9 "_law_right" = true) (k9 : PySem.W.keepIn K (.ref f9) = true)
    (a10 : PySem.W.nsIn K mainGlobals "_law_made" = some (some (.ref f10))) (l10 : K.lookup f10 = some ⟨oc10, od10, .func (PySem.W.fnOf "_law_made" "_law_made" (defArgs sMadeL) (defBody sMadeL) (defScope sMadeL) .none kV10 dc10 pm10 an10 cd10 ct10), sl10⟩) (c10 : PySem.W.codeIn K cd10 "_law_made" = true) (k10 : PySem.W.keepIn K (.ref f10) = true)
    (a11 : PySem.W.nsIn K mainGlobals "_law_not_set" = some (some (.ref f11))) (l11 : K.lookup f11 = some ⟨oc11, od11, .func (PySem.W.fnOf "_law_not_set" "_law_not_set" (defArgs sNotSet) (defBody sNotSet) (defScope sNotSet) .none kV11 dc11 pm11 an11 cd11 ct11), sl11⟩) (c11 : PySem.W.codeIn K cd11 "_law_not_set" = true) (k11 : PySem.W.keepIn K (.ref f11) = true)
    (a12 : PySem.W.nsIn K mainGlobals "_law_no_item" = some (some (.ref f12))) (l12 : K.lookup f12 = some ⟨oc12, od12, .func (PySem.W.fnOf "_law_no_item" "_law_no_item" (defArgs sNoItem) (defBody sNoItem) (defScope sNoItem) .none kV12 dc12 pm12 an12 cd12 ct12), sl12⟩) (c12 : PySem.W.codeIn K cd12 "_law_no_item" = true) (k12 : PySem.W.keepIn K (.ref f12) = true)
    (a13 : PySem.W.nsIn K mainGlobals "_law_no_changes" = some (some (.ref f13))) (l13 : K.lookup f13 = some ⟨oc13, od13, .func (PySem.W.fnOf "_law_no_changes" "_law_no_changes" (defArgs sNoChanges) (defBody sNoChanges) (defScope sNoChanges) .none kV13 dc13 pm13 an13 cd13 ct13), sl13⟩) (c13 : PySem.W.codeIn K cd13 "_law_no_changes" = true) (k13 : PySem.W.keepIn K (.ref f13) = true)
    (a14 : PySem.W.nsIn K mainGlobals "_law_turned" = some (some (.ref f14))) (l14 : K.lookup f14 = some ⟨oc14, od14, .func (PySem.W.fnOf "_law_turned" "_law_turned" (defArgs sTurned) (defBody sTurned) (defScope sTurned) .none kV14 dc14 pm14 an14 cd14 ct14), sl14⟩) (c14 : PySem.W.codeIn K cd14 "_law_turned" = true) (k14 : PySem.W.keepIn K (.ref f14) = true)
    (a15 : PySem.W.nsIn K mainGlobals "law" = some (some (.ref f15))) (l15 : K.lookup f15 = some ⟨oc15, od15, .func (PySem.W.fnOf "law" "law" (defArgs sLaw) (defBody sLaw) (defScope sLaw) .none kV15 dc15 pm15 an15 cd15 ct15), sl15⟩) (c15 : PySem.W.codeIn K cd15 "law" = true) (k15 : PySem.W.keepIn K (.ref f15) = true)
    (aB : PySem.W.nsIn K mainGlobals "Book" = some (some (.ref CB)))
    (aE : PySem.W.nsIn K mainGlobals "InvalidBook" = some (some (.ref CE)))
    (aS : PySem.W.nsIn K mainGlobals "SoleError" = some (some (.ref CS)))
    (aD : PySem.W.nsIn K mainGlobals "SWITCHES" = some (some (.ref D)))
    (lD : K.lookup D = some ⟨.type "dict", none, .dict es nD, #[]⟩)
    (kyD : PySem.W.KeysLit w.params es.toList)
    (loD : (D == sysModules) = false)
    (ksD : es.toList.map keyTx = prts.map some)
    (i0 : PySem.W.nsIn K D "owner" = some (some (.ref T0)))
    (i1 : PySem.W.nsIn K D "look" = some (some (.ref T1)))
    (i2 : PySem.W.nsIn K D "choose" = some (some (.ref T2)))
    (i3 : PySem.W.nsIn K D "wants" = some (some (.ref T3)))
    (i4 : PySem.W.nsIn K D "early" = some (some (.ref T4)))
    (lT0 : K.lookup T0 = some ⟨.type "tuple", odT0, .seq its0 mT0, slT0⟩)
    (zT0 : its0.size ≤ sizeLine)
    (vT0 : Vals (oW.map V.str) its0.toList)
    (lT1 : K.lookup T1 = some ⟨.type "tuple", odT1, .seq its1 mT1, slT1⟩)
    (zT1 : its1.size ≤ sizeLine)
    (vT1 : Vals (lW.map V.str) its1.toList)
    (lT2 : K.lookup T2 = some ⟨.type "tuple", odT2, .seq its2 mT2, slT2⟩)
    (zT2 : its2.size ≤ sizeLine)
    (vT2 : Vals (cW.map V.str) its2.toList)
    (lT3 : K.lookup T3 = some ⟨.type "tuple", odT3, .seq its3 mT3, slT3⟩)
    (zT3 : its3.size ≤ sizeLine)
    (vT3 : Vals (nW.map V.str) its3.toList)
    (lT4 : K.lookup T4 = some ⟨.type "tuple", odT4, .seq its4 mT4, slT4⟩)
    (zT4 : its4.size ≤ sizeLine)
    (vT4 : Vals (eW.map V.str) its4.toList)
    (atPo : PySem.W.findIn K (.ref CB) "owner" = some (some (.ref qPo)))
    (gePo : PySem.W.specialIn K (.ref qPo) "__get__" = some (some (.builtin "property.__get__")))
    (tkPo : PySem.W.takesIn K (.ref qPo) = some true)
    (rcPo : PySem.W.recIn K qPo "property" = some (.ref fPo :: rePo))
    (lPo : K.lookup fPo = some ⟨ocPo, odPo, .func (PySem.W.fnOf "owner" "Book.owner" (defArgs mOwner) (defBody mOwner) (defScope mOwner) .none kVPo dcPo pmPo anPo cdPo ctPo), slPo⟩) (cPo : PySem.W.codeIn K cdPo "Book.owner" = true) (kPo : PySem.W.keepIn K (.ref fPo) = true)
    (atPl : PySem.W.findIn K (.ref CB) "look" = some (some (.ref qPl)))
    (gePl : PySem.W.specialIn K (.ref qPl) "__get__" = some (some (.builtin "property.__get__")))
    (tkPl : PySem.W.takesIn K (.ref qPl) = some true)
    (rcPl : PySem.W.recIn K qPl "property" = some (.ref fPl :: rePl))
    (lPl : K.lookup fPl = some ⟨ocPl, odPl, .func (PySem.W.fnOf "look" "Book.look" (defArgs mLook) (defBody mLook) (defScope mLook) .none kVPl dcPl pmPl anPl cdPl ctPl), slPl⟩) (cPl : PySem.W.codeIn K cdPl "Book.look" = true) (kPl : PySem.W.keepIn K (.ref fPl) = true)
    (atPc : PySem.W.findIn K (.ref CB) "choose" = some (some (.ref qPc)))
    (gePc : PySem.W.specialIn K (.ref qPc) "__get__" = some (some (.builtin "property.__get__")))
    (tkPc : PySem.W.takesIn K (.ref qPc) = some true)
    (rcPc : PySem.W.recIn K qPc "property" = some (.ref fPc :: rePc))
    (lPc : K.lookup fPc = some ⟨ocPc, odPc, .func (PySem.W.fnOf "choose" "Book.choose" (defArgs mChoose) (defBody mChoose) (defScope mChoose) .none kVPc dcPc pmPc anPc cdPc ctPc), slPc⟩) (cPc : PySem.W.codeIn K cdPc "Book.choose" = true) (kPc : PySem.W.keepIn K (.ref fPc) = true)
    (atPn : PySem.W.findIn K (.ref CB) "wants" = some (some (.ref qPn)))
    (gePn : PySem.W.specialIn K (.ref qPn) "__get__" = some (some (.builtin "property.__get__")))
    (tkPn : PySem.W.takesIn K (.ref qPn) = some true)
    (rcPn : PySem.W.recIn K qPn "property" = some (.ref fPn :: rePn))
    (lPn : K.lookup fPn = some ⟨ocPn, odPn, .func (PySem.W.fnOf "wants" "Book.wants" (defArgs mWants) (defBody mWants) (defScope mWants) .none kVPn dcPn pmPn anPn cdPn ctPn), slPn⟩) (cPn : PySem.W.codeIn K cdPn "Book.wants" = true) (kPn : PySem.W.keepIn K (.ref fPn) = true)
    (atPe : PySem.W.findIn K (.ref CB) "early" = some (some (.ref qPe)))
    (gePe : PySem.W.specialIn K (.ref qPe) "__get__" = some (some (.builtin "property.__get__")))
    (tkPe : PySem.W.takesIn K (.ref qPe) = some true)
    (rcPe : PySem.W.recIn K qPe "property" = some (.ref fPe :: rePe))
    (lPe : K.lookup fPe = some ⟨ocPe, odPe, .func (PySem.W.fnOf "early" "Book.early" (defArgs mEarly) (defBody mEarly) (defScope mEarly) .none kVPe dcPe pmPe anPe cdPe ctPe), slPe⟩) (cPe : PySem.W.codeIn K cdPe "Book.early" = true) (kPe : PySem.W.keepIn K (.ref fPe) = true)
    (atMi : PySem.W.findIn K (.ref CB) "__init__" = some (some (.ref fMi)))
    (lMi : K.lookup fMi = some ⟨ocMi, odMi, .func (PySem.W.fnOf "__init__" "Book.__init__" (defArgs mInit) (defBody mInit) (defScope mInit) .none kVMi dcMi pmMi anMi cdMi ctMi), slMi⟩) (cMi : PySem.W.codeIn K cdMi "Book.__init__" = true) (kMi : PySem.W.keepIn K (.ref fMi) = true)
    (fnMi : PySem.W.isFn K (.ref fMi) = true)
    (atMs : PySem.W.findIn K (.ref CB) "set_part" = some (some (.ref fMs)))
    (lMs : K.lookup fMs = some ⟨ocMs, odMs, .func (PySem.W.fnOf "set_part" "Book.set_part" (defArgs mSet) (defBody mSet) (defScope mSet) .none kVMs dcMs pmMs anMs cdMs ctMs), slMs⟩) (cMs : PySem.W.codeIn K cdMs "Book.set_part" = true) (kMs : PySem.W.keepIn K (.ref fMs) = true)
    (fnMs : PySem.W.isFn K (.ref fMs) = true)
    (atMw : PySem.W.findIn K (.ref CB) "words" = some (some (.ref fMw)))
    (lMw : K.lookup fMw = some ⟨ocMw, odMw, .func (PySem.W.fnOf "words" "Book.words" (defArgs mWords) (defBody mWords) (defScope mWords) .none kVMw dcMw pmMw anMw cdMw ctMw), slMw⟩) (cMw : PySem.W.codeIn K cdMw "Book.words" = true) (kMw : PySem.W.keepIn K (.ref fMw) = true)
    (fnMw : PySem.W.isFn K (.ref fMw) = true)
    (atMt : PySem.W.findIn K (.ref CB) "twin" = some (some (.ref fMt)))
    (lMt : K.lookup fMt = some ⟨ocMt, odMt, .func (PySem.W.fnOf "twin" "Book.twin" (defArgs mTwin) (defBody mTwin) (defScope mTwin) .none kVMt dcMt pmMt anMt cdMt ctMt), slMt⟩) (cMt : PySem.W.codeIn K cdMt "Book.twin" = true) (kMt : PySem.W.keepIn K (.ref fMt) = true)
    (fnMt : PySem.W.isFn K (.ref fMt) = true)
    (atMc : PySem.W.findIn K (.ref CB) "changed" = some (some (.ref fMc)))
    (lMc : K.lookup fMc = some ⟨ocMc, odMc, .func (PySem.W.fnOf "changed" "Book.changed" (defArgs mChanged) (defBody mChanged) (defScope mChanged) .none kVMc dcMc pmMc anMc cdMc ctMc), slMc⟩) (cMc : PySem.W.codeIn K cdMc "Book.changed" = true) (kMc : PySem.W.keepIn K (.ref fMc) = true)
    (fnMc : PySem.W.isFn K (.ref fMc) = true)
    (atMd : PySem.W.findIn K (.ref CB) "difference" = some (some (.ref fMd)))
    (lMd : K.lookup fMd = some ⟨ocMd, odMd, .func (PySem.W.fnOf "difference" "Book.difference" (defArgs mDiff) (defBody mDiff) (defScope mDiff) .none kVMd dcMd pmMd anMd cdMd ctMd), slMd⟩) (cMd : PySem.W.codeIn K cdMd "Book.difference" = true) (kMd : PySem.W.keepIn K (.ref fMd) = true)
    (fnMd : PySem.W.isFn K (.ref fMd) = true)
    (atMg : PySem.W.findIn K (.ref CB) "__getitem__" = some (some (.ref fMg)))
    (lMg : K.lookup fMg = some ⟨ocMg, odMg, .func (PySem.W.fnOf "__getitem__" "Book.__getitem__" (defArgs mItem) (defBody mItem) (defScope mItem) .none kVMg dcMg pmMg anMg cdMg ctMg), slMg⟩) (cMg : PySem.W.codeIn K cdMg "Book.__getitem__" = true) (kMg : PySem.W.keepIn K (.ref fMg) = true)
    (fnMg : PySem.W.isFn K (.ref fMg) = true)
    (atMq : PySem.W.findIn K (.ref CB) "__eq__" = some (some (.ref fMq)))
    (lMq : K.lookup fMq = some ⟨ocMq, odMq, .func (PySem.W.fnOf "__eq__" "Book.__eq__" (defArgs mEq) (defBody mEq) (defScope mEq) .none kVMq dcMq pmMq anMq cdMq ctMq), slMq⟩) (cMq : PySem.W.codeIn K cdMq "Book.__eq__" = true) (kMq : PySem.W.keepIn K (.ref fMq) = true)
    (fnMq : PySem.W.isFn K (.ref fMq) = true)
    (atE : PySem.W.findIn K (.ref CE) "__init__" = some (some (.ref fE)))
    (lE : K.lookup fE = some ⟨ocE, odE, .func (PySem.W.fnOf "__init__" "InvalidBook.__init__" (defArgs mErr) (defBody mErr) (defScope mErr) .none kVE dcE pmE anE cdE ctE), slE⟩) (cE : PySem.W.codeIn K cdE "InvalidBook.__init__" = true) (kE : PySem.W.keepIn K (.ref fE) = true)
    (pg : PySem.W.plainGet K CB Str.empty = true)
    (hd : PySem.W.hasDictIn K CB = true)
    (po : PySem.W.plainOver K CB = true)
    (sa : PySem.W.findIn K (.ref CB) "__setattr__" = some (some (.builtin "object.__setattr__")))
    (nr : PySem.W.findIn K (.ref CB) "chosen" = some none)
    (ha : PySem.W.findIn K (.ref CB) "__class__" = some (some (.builtin "object.__class__")))
    (hn : PySem.W.specialIn K (.builtin "object.__class__") "__get__" = some (some (.builtin "getset_descriptor.__get__")))
    (htk : PySem.W.takesIn K (.builtin "object.__class__") = some true)
    (hm : PySem.W.mroIn K CB (.type "object") = some true)
    (mk : PySem.W.makesIn K CB = true)
    (kB : PySem.W.keepIn K (.ref CB) = true)
    (ne : PySem.W.findIn K (.ref CB) "__ne__" = some (some (.builtin "object.__ne__")))
    (fiG : PySem.W.fnIn K fMg = true)
    (icB : PySem.W.isClsIn K CB = true)
    (tyB : PySem.W.typeIn K (.ref CB) = some (.type "type"))
    (sNo : PySem.W.subIn K (.type "NoneType") (.ref CB) = some false)
    (sLi : PySem.W.subIn K (.type "list") (.ref CB) = some false)
    (icS : PySem.W.isClsIn K CS = true)
    (tyS : PySem.W.typeIn K (.ref CS) = some (.type "type"))
    (gaE : PySem.W.findIn K (.ref CE) "__getattribute__" = some (some (.builtin "BaseException.__getattribute__")))
    (ggE : PySem.W.findIn K (.ref CE) "__getattr__" = some none)
    (hdE : PySem.W.hasDictIn K CE = true)
    (icE : PySem.W.isClsIn K CE = true)
    (ssE : PySem.W.subIn K (.ref CE) (.ref CE) = some true)
    (haE : PySem.W.findIn K (.ref CE) "__class__" = some (some (.builtin "object.__class__")))
    (hmE : PySem.W.mroIn K CE (.type "object") = some true)
    (sSE : PySem.W.subIn K (.ref CE) (.ref CS) = some true)
    (lCE : K.lookup CE = some (PySem.excClassObj nmE qE CE nsE bsE bmE true snE subE abE colE ddE kE0 kE1 kE2 kE3 kE5 "ValueError.__new__"))
    (bmrE : PySem.HandSPX.refsVE bmE = true)
    (saE : PySem.W.findIn K (.ref CE) "__setattr__" = some (some (.builtin "object.__setattr__")))
    (exE : PySem.W.subIn K (.ref CE) (.type "BaseException") = some true)
    (tyE : PySem.W.typeIn K (.ref CE) = some (.type "type"))
    (kpE : PySem.W.keepIn K (.ref CE) = true)
    (noE : PySem.W.findIn K (.ref CE) "part" = some none)
    (tIE : PySem.W.typeIn K (.ref fE) = some (.type "function"))
    (z1 : PySem.W.nsIn K mainGlobals "len" = some none)
    (z2 : PySem.W.nsIn K mainGlobals "isinstance" = some none)
    (z3 : PySem.W.nsIn K mainGlobals "str" = some none)
    (z4 : PySem.W.nsIn K mainGlobals "int" = some none)
    (z5 : PySem.W.nsIn K mainGlobals "range" = some none)
    (z6 : PySem.W.nsIn K mainGlobals "max" = some none)
    (z7 : PySem.W.nsIn K mainGlobals "min" = some none)
    (z8 : PySem.W.nsIn K mainGlobals "tuple" = some none)
    (z9 : PySem.W.nsIn K mainGlobals "list" = some none)
    (z10 : PySem.W.nsIn K mainGlobals "bool" = some none)
    (z11 : PySem.W.nsIn K mainGlobals "repr" = some none)
    : ∃ fd : FuncData, (∀ (s : Shared) (v : Value), BindsTo s fd ⟨[v], []⟩ [("_law_script", v)]) ∧ ∀ base : Heap, K.In base → base.Ns mainGlobals mg → FnG 0 l.prog w K mg base CX0 8 fa fd ["_law_script"] (spLaw K) := by
  have e := hfa.symm.trans (PySem.W.mg_of X G a15)
  cases e
  have F1 := fun_mk (st := sIsSwitch) l1 c1 k1
  have b1 := F1.binds (ps := ["value"]) fun _ _ _ _ _ _ us hl => match us, hl with | [_], _ => rfl
  have g1 := PySem.W.mg_of X G a1
  have F2 := fun_mk (st := sIsWord) l2 c2 k2
  have b2 := F2.binds (ps := ["part", "value"]) fun _ _ _ _ _ _ us hl => match us, hl with | [_, _], _ => rfl
  have g2 := PySem.W.mg_of X G a2
  have F3 := fun_mk (st := sIsChange) l3 c3 k3
  have b3 := F3.binds (ps := ["value"]) fun _ _ _ _ _ _ us hl => match us, hl with | [_], _ => rfl
  have g3 := PySem.W.mg_of X G a3
  have F4 := fun_mk (st := sPool) l4 c4 k4
  have b4 := F4.binds (ps := ["_law_script", "_law_k"]) fun _ _ _ _ _ _ us hl => match us, hl with | [_, _], _ => rfl
  have g4 := PySem.W.mg_of X G a4
  have F5 := fun_mk (st := sDraw) l5 c5 k5
  have b5 := F5.binds (ps := ["_law_pool_here", "_law_many"]) fun _ _ _ _ _ _ us hl => match us, hl with | [_, _], _ => rfl
  have g5 := PySem.W.mg_of X G a5
  have F6 := fun_mk (st := sPick) l6 c6 k6
  have b6 := F6.binds (ps := ["_law_pool_here", "_law_items"]) fun _ _ _ _ _ _ us hl => match us, hl with | [_, _], _ => rfl
  have g6 := PySem.W.mg_of X G a6
  have F7 := fun_mk (st := sWordsL) l7 c7 k7
  have b7 := F7.binds (ps := ["_law_pool_here"]) fun _ _ _ _ _ _ us hl => match us, hl with | [_], _ => rfl
  have g7 := PySem.W.mg_of X G a7
  have F8 := fun_mk (st := sBookL) l8 c8 k8
  have b8 := F8.binds (ps := ["_law_words_here"]) fun _ _ _ _ _ _ us hl => match us, hl with | [_], _ => rfl
  have g8 := PySem.W.mg_of X G a8
  have F9 := fun_mk (st := sRightL) l9 c9 k9
  have b9 := F9.binds (ps := ["_law_book_here", "_law_words_here"]) fun _ _ _ _ _ _ us hl => match us, hl with | [_, _], _ => rfl
  have g9 := PySem.W.mg_of X G a9
  have F10 := fun_mk (st := sMadeL) l10 c10 k10
  have b10 := F10.binds (ps := ["_law_words_here"]) fun _ _ _ _ _ _ us hl => match us, hl with | [_], _ => rfl
  have g10 := PySem.W.mg_of X G a10
  have F11 := fun_mk (st := sNotSet) l11 c11 k11
  have b11 := F11.binds (ps := ["_law_book_here", "_law_part", "_law_word", "_law_due"]) fun _ _ _ _ _ _ us hl => match us, hl with | [_, _, _, _], _ => rfl
  have g11 := PySem.W.mg_of X G a11
  have F12 := fun_mk (st := sNoItem) l12 c12 k12
  have b12 := F12.binds (ps := ["_law_book_here", "_law_part"]) fun _ _ _ _ _ _ us hl => match us, hl with | [_, _], _ => rfl
  have g12 := PySem.W.mg_of X G a12
  have F13 := fun_mk (st := sNoChanges) l13 c13 k13
  have b13 := F13.binds (ps := ["_law_book_here", "_law_changes", "_law_due"]) fun _ _ _ _ _ _ us hl => match us, hl with | [_, _, _], _ => rfl
  have g13 := PySem.W.mg_of X G a13
  have F14 := fun_mk (st := sTurned) l14 c14 k14
  have b14 := F14.binds (ps := ["_law_pool_here", "_law_book_here", "_law_words_here"]) fun _ _ _ _ _ _ us hl => match us, hl with | [_, _, _], _ => rfl
  have g14 := PySem.W.mg_of X G a14
  have F15 := fun_mk (st := sLaw) l15 c15 k15
  have FPo := fun_mk (st := mOwner) lPo cPo kPo
  have bPo := FPo.binds (ps := ["self"]) fun _ _ _ _ _ _ us hl => match us, hl with | [_], _ => rfl
  have FPl := fun_mk (st := mLook) lPl cPl kPl
  have bPl := FPl.binds (ps := ["self"]) fun _ _ _ _ _ _ us hl => match us, hl with | [_], _ => rfl
  have FPc := fun_mk (st := mChoose) lPc cPc kPc
  have bPc := FPc.binds (ps := ["self"]) fun _ _ _ _ _ _ us hl => match us, hl with | [_], _ => rfl
  have FPn := fun_mk (st := mWants) lPn cPn kPn
  have bPn := FPn.binds (ps := ["self"]) fun _ _ _ _ _ _ us hl => match us, hl with | [_], _ => rfl
  have FPe := fun_mk (st := mEarly) lPe cPe kPe
  have bPe := FPe.binds (ps := ["self"]) fun _ _ _ _ _ _ us hl => match us, hl with | [_], _ => rfl
  have FMi := fun_mk (st := mInit) lMi cMi kMi
  have FMs := fun_mk (st := mSet) lMs cMs kMs
  have bMs := FMs.binds (ps := ["self", "part", "word"]) fun _ _ _ _ _ _ us hl => match us, hl with | [_, _, _], _ => rfl
  have FMw := fun_mk (st := mWords) lMw cMw kMw
  have bMw := FMw.binds (ps := ["self"]) fun _ _ _ _ _ _ us hl => match us, hl with | [_], _ => rfl
  have FMt := fun_mk (st := mTwin) lMt cMt kMt
  have bMt := FMt.binds (ps := ["self"]) fun _ _ _ _ _ _ us hl => match us, hl with | [_], _ => rfl
  have FMc := fun_mk (st := mChanged) lMc cMc kMc
  have bMc := FMc.binds (ps := ["self", "changes"]) fun _ _ _ _ _ _ us hl => match us, hl with | [_, _], _ => rfl
  have FMd := fun_mk (st := mDiff) lMd cMd kMd
  have bMd := FMd.binds (ps := ["self", "other"]) fun _ _ _ _ _ _ us hl => match us, hl with | [_, _], _ => rfl
  have FMg := fun_mk (st := mItem) lMg cMg kMg
  have bMg := FMg.binds (ps := ["self", "part"]) fun _ _ _ _ _ _ us hl => match us, hl with | [_, _], _ => rfl
  have FMq := fun_mk (st := mEq) lMq cMq kMq
  have bMq := FMq.binds (ps := ["self", "other"]) fun _ _ _ _ _ _ us hl => match us, hl with | [_, _], _ => rfl
  have FE := fun_mk (st := mErr) lE cE kE
  have bE := FE.binds (ps := ["self", "part"]) fun _ _ _ _ _ _ us hl => match us, hl with | [_, _], _ => rfl
  have T : Tx mg := ⟨PySem.W.mg_none_of X G z1, PySem.W.mg_none_of X G z2, PySem.W.mg_none_of X G z3, PySem.W.mg_none_of X G z4, PySem.W.mg_none_of X G z5, PySem.W.mg_none_of X G z6, PySem.W.mg_none_of X G z7, PySem.W.mg_none_of X G z8, PySem.W.mg_none_of X G z9, PySem.W.mg_none_of X G z10⟩
  have C : BF K mg CB := ⟨⟨pg, hd, po, sa⟩, nr, PySem.W.mg_of X G aB, ha, hn, htk, hm, kit_self⟩
  have M : Mk K CB fMi := ⟨mk, atMi, fnMi, kB⟩
  have DD : WD K w D prts := ⟨es, nD, ⟨lD, kyD, loD⟩, ksD⟩
  have S : SWF K mg w D := ⟨PySem.W.mg_of X G aD, DD, fun p hp => by
    rcases prts_cases hp with rfl | rfl | rfl | rfl | rfl
    · exact ⟨T0, DD.get i0 rfl, fun H => (show optW "owner" = oW by decide +kernel) ▸ sqT_of lT0 zT0 vT0 H⟩
    · exact ⟨T1, DD.get i1 rfl, fun H => (show optW "look" = lW by decide +kernel) ▸ sqT_of lT1 zT1 vT1 H⟩
    · exact ⟨T2, DD.get i2 rfl, fun H => (show optW "choose" = cW by decide +kernel) ▸ sqT_of lT2 zT2 vT2 H⟩
    · exact ⟨T3, DD.get i3 rfl, fun H => (show optW "wants" = nW by decide +kernel) ▸ sqT_of lT3 zT3 vT3 H⟩
    · exact ⟨T4, DD.get i4 rfl, fun H => (show optW "early" = eW by decide +kernel) ▸ sqT_of lT4 zT4 vT4 H⟩⟩
  have WE : EF K mg CE fE "InvalidBook" "part" := ⟨⟨⟨_, _, _, _, _, _, _, _, _, _, _, _, _, _, _, lCE, bmrE⟩, saE, exE, tyE, kpE⟩, noE, PySem.W.mg_of X G aE, atE, tIE⟩
  have XFE : XfC K CE := ⟨gaE, ggE, exE, hdE⟩
  have ICE : IsC K CE := ⟨gaE, ggE, exE, hdE, haE, hn, htk, hmE⟩
  have teE := exm_own exE icE tyE ssE
  have KBk : KB K CB := ⟨kit_own icB tyB sNo, kit_own icB tyB sLi, sNo, sLi⟩
  have NE : Ow.NeC K CB fMq := ⟨⟨atMq, fnMq⟩, ne, hm⟩
  have SG : Ow.Spc K CB fMg "__getitem__" := ⟨atMg, fnMg⟩
  refine ⟨PySem.W.fnOf "law" "law" (defArgs sLaw) (defBody sLaw) (defScope sLaw) .none kV15 dc15 pm15 an15 cd15 ct15, fun s v => .of_eq rfl, fun base _ _ => ?_⟩
  have G1 : FnOk l.prog w K mg base CX0 1 f1 _ ["value"] spIsSwitch := ok_isSwitch F1 T S
  have G2 : FnOk l.prog w K mg base CX0 1 f2 _ ["part", "value"] (spIsWord K) := ok_isWord F2 T S
  have G3 := ok_isChange F3 T g1 k1 b1 G1 g2 k2 b2 G2
  have GE : FnOk l.prog w K mg base CX0 1 fE _ ["self", "part"] (spErr CE "part") := ok_err FE WE
  have GI := ok_init FMi C S g2 k2 b2 G2
  have GIB := ok_initB (CB := CB) FMi S WE bE GE g2 k2 b2 G2
  have RPo : PrG l.prog w K mg base CB "owner" qPo fPo _ := ⟨⟨atPo, gePo, tkPo, ⟨_, rcPo⟩⟩, bPo, ok_owner FPo C⟩
  have RPl : PrG l.prog w K mg base CB "look" qPl fPl _ := ⟨⟨atPl, gePl, tkPl, ⟨_, rcPl⟩⟩, bPl, ok_look FPl C⟩
  have RPc : PrG l.prog w K mg base CB "choose" qPc fPc _ := ⟨⟨atPc, gePc, tkPc, ⟨_, rcPc⟩⟩, bPc, ok_choose FPc C⟩
  have RPn : PrG l.prog w K mg base CB "wants" qPn fPn _ := ⟨⟨atPn, gePn, tkPn, ⟨_, rcPn⟩⟩, bPn, ok_wants FPn C⟩
  have RPe : PrG l.prog w K mg base CB "early" qPe fPe _ := ⟨⟨atPe, gePe, tkPe, ⟨_, rcPe⟩⟩, bPe, ok_early FPe C⟩
  have hb : KBn K _ ["self", "owner", "look", "choose", "wants", "early"] 1 kw5 (fun us ws => us ++ ws) (fun vs zs => vs ++ zs) := ⟨fun s us ws _ l1 l2 => match us, ws, l1, l2 with | [_], [_, _, _, _, _], _, _ => (.of_eq rfl : BindsTo s (PySem.W.fnOf "__init__" "Book.__init__" (defArgs mInit) (defBody mInit) (defScope mInit) .none kVMi dcMi pmMi anMi cdMi ctMi) _ _), fun r1 r2 => r1.append r2⟩
  have GMs := ok_set FMs C WE bE GE g1 k1 b1 G1 g2 k2 b2 G2
  have GMg := ok_item FMg C WE bE GE g1 k1 b1 G1
  have GMt := ok_twin FMt C M hb GI
  have GMw : FnOk l.prog w K mg base CX0 1 fMw _ ["self"] (spWords CB) := ok_words FMw T C S
  have GMc := ok_changed FMc T C S WE bE GE g3 k3 b3 G3 M hb GI
  have GMd := ok_diff FMd C S SG fiG bMg GMg
  have GMq : FnOk l.prog w K mg base CX0 1 fMq _ ["self", "other"] (spMEq K CB) := ok_meq FMq T C
  have G4 : FnOk l.prog w K mg base CX0 1 f4 _ ["_law_script", "_law_k"] (spPool K) := ok_pool F4 T
  have G5 : FnOk l.prog w K mg base CX0 1 f5 _ ["_law_pool_here", "_law_many"] spDraw := ok_draw F5 T
  have G6 := ok_pick F6 T g5 k5 b5 G5
  have G7 := ok_wordsL F7 T S g6 k6 b6 G6
  have G8 := ok_bookL F8 C M hb GI
  have GBB := ok_bookB F8 C M hb GIB
  have G9 := ok_right F9 T C S ⟨atMw, fnMw, kMw⟩ bMw GMw SG fiG bMg GMg RPo RPl RPc RPn RPe
  have G10 := ok_madeB F10 T WE XFE teE ICE (PySem.W.mg_of X G aS) (kit_cls (fun z => nomatch z) icS tyS sSE) g8 k8 b8 GBB
  have G11 := ok_notSet F11 C WE XFE teE (PySem.W.mg_none_of X G z11) ⟨atMs, fnMs, kMs⟩ bMs GMs
  have G12 := ok_noItem F12 WE XFE teE (PySem.W.mg_none_of X G z11) SG fiG bMg GMg
  have G13 := ok_noCh F13 C WE XFE teE (PySem.W.mg_none_of X G z11) ⟨atMc, fnMc, kMc⟩ bMc GMc
  have G14 := ok_turned F14 T C S NE.eq bMq GMq g5 k5 b5 G5 g6 k6 b6 G6 g9 k9 b9 G9 g8 k8 b8 G8 ⟨atMc, fnMc, kMc⟩ bMc GMc ⟨atMs, fnMs, kMs⟩ bMs GMs ⟨atMd, fnMd, kMd⟩ bMd GMd g11 k11 b11 G11 g10 k10 b10 G10
  exact ok_law F15 T C KBk NE bMq GMq g4 k4 b4 G4 g7 k7 b7 G7 g8 k8 b8 G8 ⟨atMt, fnMt, kMt⟩ bMt GMt g9 k9 b9 G9 g14 k14 b14 G14 g12 k12 b12 G12 g13 k13 b13 G13
end K1
open PySem PySem.W PyProof.Rows
set_option maxRecDepth 100000 in
set_option maxHeartbeats 0 in
theorem PySem.Challenge.cw_soleinstances_k21_books_holds : PySem.Challenge.rw_soleinstances_k21_books.Holds := by
  w_on; o_law; k_head; (case hw => w_witness2)
  k_fill
  refine Tk.walkG (l := PySem.Challenge.rw_soleinstances_k21_books) (n := 63) (k := 8) (x := "_law_script") (CX := fun _ => L2.CX0) (sp := fun w => K1.spLaw _) rfl (by decide) rfl ⟨rfl, by decide, by decide⟩ (fun w h Y => PySem.W.kIn_of Y) ?F (fun _ _ a ns hl hS => ⟨a, ns, rfl, hS, hl, fun _ => rfl⟩) (fun _ _ _ _ _ h => h)
  case F =>
    intro w mg fa h KX G hmg
    refine' K1.all_mk KX G hmg ?a1 ?l1 ?c1 ?k1 ?a2 ?l2 ?c2 ?k2 ?a3 ?l3 ?c3 ?k3 ?a4 ?l4 ?c4 ?k4 ?a5 ?l5 ?c5 ?k5 ?a6 ?l6 ?c6 ?k6 ?a7 ?l7 ?c7 ?k7 ?a8 ?l8 ?c8 ?k8 ?a9 ?l9 ?c9 ?k9 ?a10 ?l10 ?c10 ?k10 ?a11 ?l11 ?c11 ?k11 ?a12 ?l12 ?c12 ?k12 ?a13 ?l13 ?c13 ?k13 ?a14 ?l14 ?c14 ?k14 ?a15 ?l15 ?c15 ?k15 ?aB ?aE ?aS ?aD ?lD ?kyD ?loD ?ksD ?i0 ?i1 ?i2 ?i3 ?i4 ?lT0 ?zT0 ?vT0 ?lT1 ?zT1 ?vT1 ?lT2 ?zT2 ?vT2 ?lT3 ?zT3 ?vT3 ?lT4 ?zT4 ?vT4 ?atPo ?gePo ?tkPo ?rcPo ?lPo ?cPo ?kPo ?atPl ?gePl ?tkPl ?rcPl ?lPl ?cPl ?kPl ?atPc ?gePc ?tkPc ?rcPc ?lPc ?cPc ?kPc ?atPn ?gePn ?tkPn ?rcPn ?lPn ?cPn ?kPn ?atPe ?gePe ?tkPe ?rcPe ?lPe ?cPe ?kPe ?atMi ?lMi ?cMi ?kMi ?fnMi ?atMs ?lMs ?cMs ?kMs ?fnMs ?atMw ?lMw ?cMw ?kMw ?fnMw ?atMt ?lMt ?cMt ?kMt ?fnMt ?atMc ?lMc ?cMc ?kMc ?fnMc ?atMd ?lMd ?cMd ?kMd ?fnMd ?atMg ?lMg ?cMg ?kMg ?fnMg ?atMq ?lMq ?cMq ?kMq ?fnMq ?atE ?lE ?cE ?kE ?pg ?hd ?po ?sa ?nr ?ha ?hn ?htk ?hm ?mk ?kB ?ne ?fiG ?icB ?tyB ?sNo ?sLi ?icS ?tyS ?gaE ?ggE ?hdE ?icE ?ssE ?haE ?hmE ?sSE ?lCE ?bmrE ?saE ?exE ?tyE ?kpE ?noE ?tIE ?z1 ?z2 ?z3 ?z4 ?z5 ?z6 ?z7 ?z8 ?z9 ?z10 ?z11
    (case a1 => k_is)
    (case l1 => k_is)
    (case c1 => k_is)
    (case k1 => k_is)
    (case a2 => k_is)
    (case l2 => k_is)
    (case c2 => k_is)
    (case k2 => k_is)
    (case a3 => k_is)
    (case l3 => k_is)
    (case c3 => k_is)
    (case k3 => k_is)
    (case a4 => k_is)
    (case l4 => k_is)
    (case c4 => k_is)
    (case k4 => k_is)
    (case a5 => k_is)
    (case l5 => k_is)
    (case c5 => k_is)
    (case k5 => k_is)
    (case a6 => k_is)
    (case l6 => k_is)
    (case c6 => k_is)
    (case k6 => k_is)
    (case a7 => k_is)
    (case l7 => k_is)
    (case c7 => k_is)
    (case k7 => k_is)
    (case a8 => k_is)
    (case l8 => k_is)
    (case c8 => k_is)
    (case k8 => k_is)
    (case a9 => k_is)
    (case l9 => k_is)
    (case c9 => k_is)
    (case k9 => k_is)
    (case a10 => k_is)
    (case l10 => k_is)
    (case c10 => k_is)
    (case k10 => k_is)
    (case a11 => k_is)
    (case l11 => k_is)
    (case c11 => k_is)
    (case k11 => k_is)
    (case a12 => k_is)
    (case l12 => k_is)
    (case c12 => k_is)
    (case k12 => k_is)
    (case a13 => k_is)
    (case l13 => k_is)
    (case c13 => k_is)
    (case k13 => k_is)
    (case a14 => k_is)
    (case l14 => k_is)
    (case c14 => k_is)
    (case k14 => k_is)
    (case a15 => k_is)
    (case l15 => k_is)
    (case c15 => k_is)
    (case k15 => k_is)
    (case aB => k_is)
    (case aE => k_is)
    (case aS => k_is)
    (case aD => k_is)
    (case lD => k_is)
    (case kyD => k_keys)
    (case loD => first | rfl | decide)
    (case ksD => first | rfl | decide +kernel)
    (case i0 => k_is)
    (case i1 => k_is)
    (case i2 => k_is)
    (case i3 => k_is)
    (case i4 => k_is)
    (case lT0 => k_is)
    (case zT0 => first | decide | exact (by decide +kernel))
    (case vT0 => repeat (first | exact Paired.nil | refine Paired.cons ⟨_, rfl⟩ ?_))
    (case lT1 => k_is)
    (case zT1 => first | decide | exact (by decide +kernel))
    (case vT1 => repeat (first | exact Paired.nil | refine Paired.cons ⟨_, rfl⟩ ?_))
    (case lT2 => k_is)
    (case zT2 => first | decide | exact (by decide +kernel))
    (case vT2 => repeat (first | exact Paired.nil | refine Paired.cons ⟨_, rfl⟩ ?_))
    (case lT3 => k_is)
    (case zT3 => first | decide | exact (by decide +kernel))
    (case vT3 => repeat (first | exact Paired.nil | refine Paired.cons ⟨_, rfl⟩ ?_))
    (case lT4 => k_is)
    (case zT4 => first | decide | exact (by decide +kernel))
    (case vT4 => repeat (first | exact Paired.nil | refine Paired.cons ⟨_, rfl⟩ ?_))
    (case atPo => k_is)
    (case gePo => k_is)
    (case tkPo => k_is)
    (case rcPo => k_is)
    (case lPo => k_is)
    (case cPo => k_is)
    (case kPo => k_is)
    (case atPl => k_is)
    (case gePl => k_is)
    (case tkPl => k_is)
    (case rcPl => k_is)
    (case lPl => k_is)
    (case cPl => k_is)
    (case kPl => k_is)
    (case atPc => k_is)
    (case gePc => k_is)
    (case tkPc => k_is)
    (case rcPc => k_is)
    (case lPc => k_is)
    (case cPc => k_is)
    (case kPc => k_is)
    (case atPn => k_is)
    (case gePn => k_is)
    (case tkPn => k_is)
    (case rcPn => k_is)
    (case lPn => k_is)
    (case cPn => k_is)
    (case kPn => k_is)
    (case atPe => k_is)
    (case gePe => k_is)
    (case tkPe => k_is)
    (case rcPe => k_is)
    (case lPe => k_is)
    (case cPe => k_is)
    (case kPe => k_is)
    (case atMi => k_is)
    (case lMi => k_is)
    (case cMi => k_is)
    (case kMi => k_is)
    (case fnMi => k_is)
    (case atMs => k_is)
    (case lMs => k_is)
    (case cMs => k_is)
    (case kMs => k_is)
    (case fnMs => k_is)
    (case atMw => k_is)
    (case lMw => k_is)
    (case cMw => k_is)
    (case kMw => k_is)
    (case fnMw => k_is)
    (case atMt => k_is)
    (case lMt => k_is)
    (case cMt => k_is)
    (case kMt => k_is)
    (case fnMt => k_is)
    (case atMc => k_is)
    (case lMc => k_is)
    (case cMc => k_is)
    (case kMc => k_is)
    (case fnMc => k_is)
    (case atMd => k_is)
    (case lMd => k_is)
    (case cMd => k_is)
    (case kMd => k_is)
    (case fnMd => k_is)
    (case atMg => k_is)
    (case lMg => k_is)
    (case cMg => k_is)
    (case kMg => k_is)
    (case fnMg => k_is)
    (case atMq => k_is)
    (case lMq => k_is)
    (case cMq => k_is)
    (case kMq => k_is)
    (case fnMq => k_is)
    (case atE => k_is)
    (case lE => k_is)
    (case cE => k_is)
    (case kE => k_is)
    (case pg => k_is)
    (case hd => k_is)
    (case po => k_is)
    (case sa => k_is)
    (case nr => k_is)
    (case ha => k_is)
    (case hn => k_is)
    (case htk => k_is)
    (case hm => k_is)
    (case mk => k_is)
    (case kB => k_is)
    (case ne => k_is)
    (case fiG => k_is)
    (case icB => k_is)
    (case tyB => k_is)
    (case sNo => k_is)
    (case sLi => k_is)
    (case icS => k_is)
    (case tyS => k_is)
    (case gaE => k_is)
    (case ggE => k_is)
    (case hdE => k_is)
    (case icE => k_is)
    (case ssE => k_is)
    (case haE => k_is)
    (case hmE => k_is)
    (case sSE => k_is)
    (case lCE => k_is)
    (case bmrE => decide +kernel)
    (case saE => k_is)
    (case exE => k_is)
    (case tyE => k_is)
    (case kpE => k_is)
    (case noE => k_is)
    (case tIE => k_is)
    (case z1 => k_is)
    (case z2 => k_is)
    (case z3 => k_is)
    (case z4 => k_is)
    (case z5 => k_is)
    (case z6 => k_is)
    (case z7 => k_is)
    (case z8 => k_is)
    (case z9 => k_is)
    (case z10 => k_is)
    (case z11 => k_is)
#print axioms PySem.Challenge.cw_soleinstances_k21_books_holds
