import PyProof.Rows.All
import Wide.All
import OpenK.AllK
import Wide.FinOn
import HandS.ForMost
import HandS.StrMore
import HandS.IsInst
import HandS.TupLe
import HandS.Walk
import PySem.Challenge.RW_soleinstances_k01_names
set_option Elab.async false
set_option linter.all false
set_option maxRecDepth 100000
set_option maxHeartbeats 4000000
namespace K1
open PySem
def lowB (c : Nat) : Bool := decide (97 ≤ c ∧ c ≤ 122)
def upB (c : Nat) : Bool := decide (65 ≤ c ∧ c ≤ 90)
theorem uni : ∀ c : Nat, c < 128 → (Unicode.isAlpha c = (lowB c || upB c)) ∧ Unicode.isLower c = lowB c ∧ (Unicode.isUpper c || Unicode.isTitle c) = upB c ∧ Unicode.isUpper c = upB c ∧ (Unicode.isLower c || Unicode.isTitle c) = lowB c := by
  have h : ∀ c : Fin 128, (Unicode.isAlpha c.1 = (lowB c.1 || upB c.1)) ∧ Unicode.isLower c.1 = lowB c.1 ∧ (Unicode.isUpper c.1 || Unicode.isTitle c.1) = upB c.1 ∧ Unicode.isUpper c.1 = upB c.1 ∧ (Unicode.isLower c.1 || Unicode.isTitle c.1) = lowB c.1 := by decide +kernel
  intro c hc
  exact h ⟨c, hc⟩
def wordB (z : Str) : Bool := Txt.isascii z && Txt.isalpha z
/-- all its signs are lowercase letters -/
def lowL (l : List Nat) : Bool := l.all lowB
def nameL (l : List Nat) : Bool := decide (1 ≤ l.length) && decide (l.length ≤ 8) && lowL l
def consL (l : List Nat) : Bool := decide (l.length ≤ 8) && match l with | [] => false | c :: r => upB c && lowL r
theorem all_arr (z : Str) (p : Nat → Bool) : z.cps.all p = z.cps.toList.all p := by rw [Array.all_toList]
theorem any_arr (z : Str) (p : Nat → Bool) : z.cps.any p = z.cps.toList.any p := by rw [Array.any_toList]
theorem size_arr (z : Str) : z.length = z.cps.toList.length := by unfold Str.length; rw [Array.length_toList]
theorem word_of {z : Str} (h : wordB z = true) : z.cps.toList ≠ [] ∧ ∀ c ∈ z.cps.toList, c < 128 ∧ (lowB c || upB c) = true := by
  unfold wordB Txt.isascii Txt.isalpha at h
  rw [Bool.and_eq_true, Bool.and_eq_true, all_arr, all_arr, List.all_eq_true, List.all_eq_true] at h
  obtain ⟨h1, h2, h3⟩ := h
  refine ⟨fun e => ?_, fun c hc => ?_⟩
  · rw [size_arr, e] at h2
    exact absurd h2 (by decide)
  · have a := h1 c hc
    have a' : c < 128 := by simpa using a
    have b := h3 c hc
    rw [(uni c a').1] at b
    exact ⟨a', b⟩
theorem word_ofL {z : Str} (ne : z.cps.toList ≠ []) (h : ∀ c ∈ z.cps.toList, c < 128 ∧ (lowB c || upB c) = true) : wordB z = true := by
  unfold wordB Txt.isascii Txt.isalpha
  rw [Bool.and_eq_true, Bool.and_eq_true, all_arr, all_arr, List.all_eq_true, List.all_eq_true]
  refine ⟨fun c hc => ?_, ?_, fun c hc => ?_⟩
  · have := (h c hc).1
    simpa using this
  · rw [size_arr]
    cases e : z.cps.toList with
    | nil => exact absurd e ne
    | cons a r => simp
  · rw [(uni c (h c hc).1).1]
    exact (h c hc).2
theorem low_up {c : Nat} (h : lowB c = true) : upB c = false := by
  unfold lowB at h
  unfold upB
  have := of_decide_eq_true h
  exact decide_eq_false (by omega)
theorem islower_of {z : Str} (h : ∀ c ∈ z.cps.toList, c < 128 ∧ (lowB c || upB c) = true) (ne : z.cps.toList ≠ []) : Txt.islower z = lowL z.cps.toList := by
  unfold Txt.islower lowL
  rw [any_arr, any_arr]
  by_cases hl : z.cps.toList.all lowB = true
  · rw [hl, Bool.and_eq_true]
    rw [List.all_eq_true] at hl
    refine ⟨?_, ?_⟩
    · cases e : z.cps.toList with
      | nil => exact absurd e ne
      | cons a r =>
        have ha : a ∈ z.cps.toList := by rw [e]; exact List.mem_cons_self
        rw [List.any_cons, (uni a (h a ha).1).2.1, hl a ha]
        rfl
    · rw [Bool.not_eq_true', List.any_eq_false]
      intro c hc
      rw [(uni c (h c hc).1).2.2.1, low_up (hl c hc)]
      exact Bool.false_ne_true
  · have hl' : z.cps.toList.all lowB = false := by
      cases e : z.cps.toList.all lowB with
      | false => rfl
      | true => exact absurd e hl
    rw [hl', Bool.and_eq_false_iff]
    right
    rw [Bool.not_eq_false']
    rw [List.all_eq_false] at hl'
    obtain ⟨c, hc, hn⟩ := hl'
    rw [List.any_eq_true]
    refine ⟨c, hc, ?_⟩
    rw [(uni c (h c hc).1).2.2.1]
    have := (h c hc).2
    rw [Bool.or_eq_true] at this
    rcases this with a | a
    · exact absurd a hn
    · exact a
theorem name_eq (z : Str) (hz : z.length ≤ 8) : (if wordB z = true then Txt.islower z else false) = nameL z.cps.toList := by
  by_cases hw : wordB z = true
  · obtain ⟨ne, h⟩ := word_of hw
    rw [if_pos hw, islower_of h ne]
    unfold nameL
    have h1 : 1 ≤ z.cps.toList.length := by
      cases e : z.cps.toList with
      | nil => exact absurd e ne
      | cons a r => simp
    rw [size_arr] at hz
    rw [decide_eq_true h1, decide_eq_true hz]
    rfl
  · rw [if_neg hw]
    cases e : nameL z.cps.toList with
    | false => rfl
    | true =>
      exfalso
      unfold nameL lowL at e
      rw [Bool.and_eq_true, Bool.and_eq_true, List.all_eq_true] at e
      obtain ⟨⟨e1, _⟩, e3⟩ := e
      refine hw (word_ofL (fun q => ?_) fun c hc => ?_)
      · rw [q] at e1
        exact absurd e1 (by decide)
      · have := e3 c hc
        refine ⟨?_, by rw [this]; rfl⟩
        unfold lowB at this
        have := of_decide_eq_true this
        omega
theorem upper_one {c : Nat} (h : c < 128 ∧ (lowB c || upB c) = true) : Txt.isupper ⟨#[c]⟩ = upB c := by
  unfold Txt.isupper
  rw [any_arr, any_arr]
  show ([c].any Unicode.isUpper && !([c].any fun c => Unicode.isLower c || Unicode.isTitle c)) = upB c
  rw [List.any_cons, List.any_cons, (uni c h.1).2.2.2.1, (uni c h.1).2.2.2.2]
  have := h.2
  cases hl : lowB c with
  | true => rw [low_up hl]; rfl
  | false =>
    rw [hl] at this
    have : upB c = true := this
    rw [this]
    rfl
/-- what is_constructor reckons -/
def consP (z : Str) : Bool := if wordB z = true then match z.cps.toList with | [] => false | c :: r => if Txt.isupper ⟨#[c]⟩ = true then (if r = [] then true else Txt.islower ⟨r.toArray⟩) else false else false
theorem cons_eq (z : Str) (hz : z.length ≤ 8) : consP z = consL z.cps.toList := by
  unfold consP consL
  rw [size_arr] at hz
  rw [decide_eq_true hz]
  by_cases hw : wordB z = true
  · obtain ⟨ne, h⟩ := word_of hw
    rw [if_pos hw]
    cases e : z.cps.toList with
    | nil => rfl
    | cons c r =>
      rw [e] at h
      have hc := h c List.mem_cons_self
      show (if Txt.isupper ⟨#[c]⟩ = true then (if r = [] then true else Txt.islower ⟨r.toArray⟩) else false) = (upB c && lowL r)
      rw [upper_one hc]
      cases hu : upB c with
      | false => rfl
      | true =>
        rw [if_pos rfl]
        by_cases hr : r = []
        · rw [if_pos hr, hr]
          rfl
        · rw [if_neg hr]
          have := islower_of (z := ⟨r.toArray⟩) (fun d hd => h d (List.mem_cons_of_mem _ (by simpa using hd))) (by simpa using hr)
          rw [this]
          simp
  · rw [if_neg hw]
    cases e : z.cps.toList with
    | nil => rfl
    | cons c r =>
      cases q : (upB c && lowL r) with
      | false =>
        show false = (true && (upB c && lowL r))
        rw [q]
        rfl
      | true =>
        exfalso
        rw [Bool.and_eq_true] at q
        obtain ⟨q1, q2⟩ := q
        unfold lowL at q2
        rw [List.all_eq_true] at q2
        refine hw (word_ofL (by rw [e]; exact List.cons_ne_nil _ _) fun d hd => ?_)
        rw [e] at hd
        rcases List.mem_cons.mp hd with rfl | hd
        · refine ⟨?_, by rw [q1]; simp⟩
          unfold upB at q1
          have := of_decide_eq_true q1
          omega
        · have := q2 d hd
          refine ⟨?_, by rw [this]; rfl⟩
          unfold lowB at this
          have := of_decide_eq_true this
          omega
def abc : List Nat := (Str.ofString "abcdefghijklmnopqrstuvwxyz").cps.toList
def ABC : List Nat := (Str.ofString "ABCDEFGHIJKLMNOPQRSTUVWXYZ").cps.toList
theorem abc_eq : abc = [97,98,99,100,101,102,103,104,105,106,107,108,109,110,111,112,113,114,115,116,117,118,119,120,121,122] := by decide +kernel
theorem ABC_eq : ABC = [65,66,67,68,69,70,71,72,73,74,75,76,77,78,79,80,81,82,83,84,85,86,87,88,89,90] := by decide +kernel
theorem mem_abc (c : Nat) : decide (c ∈ abc) = lowB c := by
  rw [abc_eq]
  unfold lowB
  rw [decide_eq_decide]
  simp only [List.mem_cons, List.not_mem_nil, or_false]
  omega
theorem mem_ABC (c : Nat) : decide (c ∈ ABC) = upB c := by
  rw [ABC_eq]
  unfold upB
  rw [decide_eq_decide]
  simp only [List.mem_cons, List.not_mem_nil, or_false]
  omega
end K1
namespace K1
open PySem PySem.Spec PyProof.Rows L2
def topS (i : Nat) : Stmt := PySem.Challenge.pw_soleinstances_k01_names.main.body.getD i (.Pass ⟨0, 0, 0, 0⟩)
abbrev sName : Stmt := topS 2
abbrev sCons : Stmt := topS 3
abbrev sWord : Stmt := topS 4
abbrev sPool : Stmt := topS 6
abbrev sDraw : Stmt := topS 7
abbrev sPick : Stmt := topS 8
abbrev sWd : Stmt := topS 9
abbrev sLow : Stmt := topS 10
abbrev sDue : Stmt := topS 11
abbrev sLaw : Stmt := topS 12
theorem scName : FnScope ["value"] ["value"] (defScope sName) := ⟨rfl, rfl, rfl, by decide +kernel, rfl, by decide +kernel, by decide +kernel⟩
theorem scCons : FnScope ["value", "rest"] ["value"] (defScope sCons) := ⟨rfl, rfl, rfl, by decide +kernel, rfl, by decide +kernel, by decide +kernel⟩
theorem scWord : FnScope ["value"] ["value"] (defScope sWord) := ⟨rfl, rfl, rfl, by decide +kernel, rfl, by decide +kernel, by decide +kernel⟩
/-- the module's names -/
structure Tx (mg : Str → Option Value) : Prop where
  len : mg "len" = none
  isi : mg "isinstance" = none
  str : mg "str" = none
  int : mg "int" = none
  range : mg "range" = none
  max : mg "max" = none
  min : mg "min" = none
  most : ∃ t, mg "MOST_LETTERS" = some (.int 8 t)
/-- a value that is no text -/
def NoStr (K : PySem.W.Frag) (H : Hp) (x : V) : Prop := ∃ t : String, TyX K H x (.type t) ∧ kitB t "str" = some false
def spWord (K : PySem.W.Frag) : Sp := fun vs H Q _ => ∃ x, vs = [x] ∧ ((∃ z, x = .str z ∧ z.length ≤ 1000 ∧ Q (.bl (decide (z.length ≤ 8) && wordB z)) H) ∨ (NoStr K H x ∧ Q (.bl false) H))
def spName (K : PySem.W.Frag) : Sp := fun vs H Q _ => ∃ x, vs = [x] ∧ ((∃ z, x = .str z ∧ z.length ≤ 1000 ∧ Q (.bl (nameL z.cps.toList)) H) ∨ (NoStr K H x ∧ Q (.bl false) H))
def spCons (K : PySem.W.Frag) : Sp := fun vs H Q _ => ∃ x, vs = [x] ∧ ((∃ z, x = .str z ∧ z.length ≤ 1000 ∧ Q (.bl (consL z.cps.toList)) H) ∨ (NoStr K H x ∧ Q (.bl false) H))
theorem k1000 {n : Nat} (h : n ≤ 1000) : n ≤ sizeLine := Nat.le_trans h (by decide)
section
variable {P : Program} {w : World} {K : PySem.W.Frag} {mg : Str → Option Value} {base : Heap}
theorem ok_word {f : Addr} {fd : FuncData} (F : Fun K "_is_word" "_is_word" sWord f fd) (T : Tx mg) : FnOk P w K mg base CX0 1 f fd ["value"] (spWord K) := by
  refine F.ok scWord (fun vs H Q E h => ?_) (fun cdv A outer s H vs Q E hr h => ?_)
  · obtain ⟨x, rfl, _⟩ := h
    rfl
  · obtain ⟨x, rfl, h⟩ := h
    obtain ⟨tm, mm⟩ := T.most
    refine ⟨_, pss_cons (ps_if (PW.pt (pw_or (pt_not (pt_val (pe_callB call_isi (by rfl) T.isi (by decide +kernel) (pa_cons (pv 0) (pa_cons (pe_bltn (v := .ty "str") (u := .type "str") (by rfl) T.str (by decide +kernel) rfl) pa_nil))))) (pw_or1 (pt_cmpR op_gt (pe_callB call_len (by rfl) T.len PySem.boot_len (pa_cons (pv 0) pa_nil)) (pe_glob (v := .int 8) (by rfl) mm ⟨tm, rfl⟩) (nomark _)))))
      (pss_one (ps_ret pe_bl)) pss_nil) (pss_one (ps_ret (pe_and (pe_m0 PySem.F.slot_str_isascii PySem.F.type_str_isascii mt_isascii (pv 0)) (pe_one (pe_m0 PySem.F.slot_str_isalpha PySem.F.type_str_isalpha mt_isalpha (pv 0)))))), ?_⟩
    rcases h with ⟨z, rfl, hz, q⟩ | ⟨⟨t, ty, kt⟩, q⟩
    · refine ⟨_, rfl, _, _, _, _, true, rfl, .ty "str", .base (.str z), kit_ty (by decide +kernel), true, rfl, iteF ?_⟩
      refine ⟨_, rfl, _, z.length, rfl, ⟨k1000 hz, rfl⟩, _, _, rfl, rfl, _, rfl, ?_⟩
      refine ite2 (fun c => ?_) (fun c => ?_)
      · have c' : (8 : Int) < (z.length : Nat) := of_decide_eq_true c
        have e : decide (z.length ≤ 8) = false := decide_eq_false (by omega)
        rw [e] at q
        exact q
      · have c' : ¬ (8 : Int) < (z.length : Nat) := fun h => c (decide_eq_true h)
        have e : decide (z.length ≤ 8) = true := decide_eq_true (by omega)
        rw [e] at q
        refine ⟨_, rfl, ⟨z, rfl⟩, z, rfl, rfl, trivial, _, rfl, ?_⟩
        unfold wordB at q
        cases ha : Txt.isascii z with
        | false =>
          rw [ha] at q
          exact iteF q
        | true =>
          rw [ha] at q
          exact iteT ⟨_, rfl, ⟨z, rfl⟩, z, rfl, rfl, trivial, q⟩
    · refine ⟨_, rfl, _, _, _, _, false, rfl, .ty "str", ty, kit_ty kt, false, rfl, iteT ?_⟩
      exact q
end
end K1
namespace K1
open PySem PySem.Spec PyProof.Rows L2
theorem cut1 (z : Str) : (cutS z (some 1) none).cps.toList = z.cps.toList.drop 1 := by
  unfold cutS
  rw [show HT.sIx z.length 0 (some 1) = min 1 z.length from HT.sIx_nat z.length 0 1, HT.sIx_none]
  rw [size_arr]
  cases z.cps.toList with
  | nil => rfl
  | cons x r =>
    rw [show min 1 (x :: r).length = 1 by
      rw [List.length_cons]
      omega]
    show (List.take ((x :: r).length - 1) r) = r
    rw [List.length_cons, Nat.add_sub_cancel]
    exact List.take_length
theorem cut1_str (z : Str) : cutS z (some 1) none = ⟨(z.cps.toList.drop 1).toArray⟩ := by
  have := cut1 z
  cases h : cutS z (some 1) none with
  | mk c =>
    rw [h] at this
    have e : c.toList = z.cps.toList.drop 1 := this
    rw [← e]
theorem str_empty (l : List Nat) : decide (V.str ⟨l.toArray⟩ = V.str "") = decide (l = []) := by
  rw [decide_eq_decide]
  constructor
  · intro e
    injection e with e
    have : l.toArray = ("" : Str).cps := congrArg Str.cps e
    have h2 : ("" : Str).cps = #[] := by decide +kernel
    rw [h2] at this
    have := congrArg Array.toList this
    simpa using this
  · rintro rfl
    have h2 : ("" : Str) = ⟨#[]⟩ := by decide +kernel
    rw [h2]
section
variable {P : Program} {w : World} {K : PySem.W.Frag} {mg : Str → Option Value} {base : Heap}
theorem ok_name {f fW : Addr} {fd fdW : FuncData} (F : Fun K "is_name" "is_name" sName f fd) (mW : mg "_is_word" = some (.ref fW)) (kW : PySem.W.keepIn K (.ref fW) = true) (bW : Binds K fdW ["value"] []) (GW : FnOk P w K mg base CX0 1 fW fdW ["value"] (spWord K)) : FnOk P w K mg base CX0 2 f fd ["value"] (spName K) := by
  refine F.ok scName (fun vs H Q E h => ?_) (fun cdv A outer s H vs Q E hr h => ?_)
  · obtain ⟨x, rfl, _⟩ := h
    rfl
  · obtain ⟨x, rfl, h⟩ := h
    refine ⟨_, pss_one (ps_ret (pe_and (pe_call GW hr (by rfl) mW kW bW .nil pass0 (pa_cons (pv 0) pa_nil)) (pe_one (pe_m0 PySem.F.slot_str_islower PySem.F.type_str_islower mt_islower (pv 0))))), ?_⟩
    refine ⟨x, rfl, x, rfl, ?_⟩
    rcases h with ⟨z, rfl, hz, q⟩ | ⟨ns, q⟩
    · refine .inl ⟨z, rfl, hz, _, rfl, ?_⟩
      by_cases h8 : z.length ≤ 8
      · rw [decide_eq_true h8]
        have e := name_eq z h8
        cases hw : wordB z with
        | false =>
          rw [hw] at e
          rw [← e] at q
          exact iteF q
        | true =>
          rw [hw, if_pos rfl] at e
          rw [← e] at q
          exact iteT ⟨_, rfl, ⟨z, rfl⟩, z, rfl, rfl, trivial, q⟩
      · have e : nameL z.cps.toList = false := by
          unfold nameL
          rw [← size_arr, decide_eq_false h8, Bool.and_false, Bool.false_and]
        rw [decide_eq_false h8]
        rw [e] at q
        exact iteF q
    · exact .inr ⟨ns, _, rfl, iteF q⟩
theorem ok_cons {f fW : Addr} {fd fdW : FuncData} (F : Fun K "is_constructor" "is_constructor" sCons f fd) (mW : mg "_is_word" = some (.ref fW)) (kW : PySem.W.keepIn K (.ref fW) = true) (bW : Binds K fdW ["value"] []) (GW : FnOk P w K mg base CX0 1 fW fdW ["value"] (spWord K)) : FnOk P w K mg base CX0 2 f fd ["value"] (spCons K) := by
  refine F.ok scCons (fun vs H Q E h => ?_) (fun cdv A outer s H vs Q E hr h => ?_)
  · obtain ⟨x, rfl, _⟩ := h
    rfl
  · obtain ⟨x, rfl, h⟩ := h
    refine ⟨_, pss_cons (ps_if (pt_not (pt_val (pe_call GW hr (by rfl) mW kW bW .nil pass0 (pa_cons (pv 0) pa_nil)))) (pss_one (ps_ret pe_bl)) pss_nil)
      (pss_cons (ps_set (i := 1) scCons.nd rfl (Or.inl rfl) (pe_slice sl_str (pv 0) (po_some pe_int) po_none))
      (pss_one (ps_ret (pe_and (pe_m0 PySem.F.slot_str_isupper PySem.F.type_str_isupper mt_isupper (pe_ix ix_str (pv 0) pe_int (fun _ _ => rfl)))
        (pe_one (pe_or (pe_cmpR op_eq (pv 1) pe_str (nomark _)) (pe_one (pe_m0 PySem.F.slot_str_islower PySem.F.type_str_islower mt_islower (pv 1))))))))), ?_⟩
    refine ⟨x, rfl, x, rfl, ?_⟩
    rcases h with ⟨z, rfl, hz, q⟩ | ⟨ns, q⟩
    · refine .inl ⟨z, rfl, hz, _, rfl, ?_⟩
      by_cases h8 : z.length ≤ 8
      · rw [decide_eq_true h8]
        have e := cons_eq z h8
        rw [← e] at q
        unfold consP at q
        cases hw : wordB z with
        | false =>
          rw [hw, if_neg Bool.false_ne_true] at q
          exact iteT q
        | true =>
          rw [hw, if_pos rfl] at q
          refine iteF ?_
          obtain ⟨ne, _⟩ := word_of hw
          refine ⟨_, rfl, 1, rfl, z, rfl, k1000 hz, ?_⟩
          cases el : z.cps.toList with
          | nil => exact absurd el ne
          | cons c r =>
            rw [el] at q
            have eS : cutS z (some 1) none = ⟨r.toArray⟩ := by
              rw [cut1_str, el]
              rfl
            refine ⟨_, rfl, z, 0, c, rfl, rfl, k1000 hz, ?_, ⟨_, rfl⟩, ⟨#[c]⟩, rfl, rfl, trivial, _, rfl, ?_⟩
            · rw [el]
              exact atI_nat (j := 0) rfl
            · cases hu : Txt.isupper ⟨#[c]⟩ with
              | false =>
                have q' := q
                simp only [hu] at q'
                exact iteF q'
              | true =>
                have q' := q
                simp only [hu, if_true] at q'
                refine iteT ⟨_, rfl, rfl, _, rfl, ?_⟩
                rw [eS, str_empty]
                by_cases hr : r = []
                · rw [decide_eq_true hr]
                  rw [if_pos hr] at q'
                  exact iteT q'
                · rw [decide_eq_false hr]
                  rw [if_neg hr] at q'
                  exact iteF ⟨_, rfl, ⟨_, rfl⟩, _, rfl, rfl, trivial, q'⟩
      · have e : consL z.cps.toList = false := by
          unfold consL
          rw [← size_arr, decide_eq_false h8, Bool.false_and]
        rw [decide_eq_false h8]
        rw [e] at q
        exact iteT q
    · exact .inr ⟨ns, _, rfl, iteT q⟩
end
end K1
namespace K1
open PySem PySem.Spec PyProof.Rows L2
theorem scPool : FnScope ["_law_script", "_law_k", "_law_cell", "_law_great", "_law_seed"] ["_law_script", "_law_k"] (defScope sPool) := ⟨rfl, rfl, rfl, by decide +kernel, rfl, by decide +kernel, by decide +kernel⟩
theorem scDraw : FnScope ["_law_pool_here", "_law_many", "_law_digit"] ["_law_pool_here", "_law_many"] (defScope sDraw) := ⟨rfl, rfl, rfl, by decide +kernel, rfl, by decide +kernel, by decide +kernel⟩
theorem scPick : FnScope ["_law_pool_here", "_law_items"] ["_law_pool_here", "_law_items"] (defScope sPick) := ⟨rfl, rfl, rfl, by decide +kernel, rfl, by decide +kernel, by decide +kernel⟩
/-- a pool stands at p -/
def Pool (H : Hp) (p : Addr) : Prop := ∃ g s : Int, H p = some (.lst [.int g, .int s]) ∧ 0 ≤ s ∧ s < 2147483647
/-- all but p is as it was -/
def KeepP (p : Addr) (H H' : Hp) : Prop := ∀ b o, b ≠ p → H b = some o → H' b = some o
theorem KeepP.refl (p : Addr) (H : Hp) : KeepP p H H := fun _ _ _ h => h
theorem KeepP.trans {p : Addr} {H H1 H2 : Hp} (a : KeepP p H H1) (b : KeepP p H1 H2) : KeepP p H H2 := fun c o n h => b c o n (a c o n h)
theorem KeepP.upd {p : Addr} {H : Hp} {o : HO} : KeepP p H (upd H p o) := fun b _ n h => by
  rw [upd_ne n]
  exact h
theorem KeepP.new {p q : Addr} {H : Hp} {o : HO} (h : H q = none) : KeepP p H (L2.upd H q o) := fun b _ n e => by
  rw [upd_ne (ne_of_none e h)]
  exact e
theorem KeepP.seq {K : PySem.W.Frag} {p a : Addr} {H H' : Hp} {xs : List V} (k : KeepP p H H') (n : a ≠ p) (h : SqL K H a xs) : SqL K H' a xs := by
  rcases h with (h | ⟨o, h⟩) | h
  · exact .inl (.inl (k _ _ n h))
  · exact .inl (.inr ⟨o, k _ _ n h⟩)
  · exact .inr h
theorem same_new {H : Hp} {p : Addr} {o : HO} (h : H p = none) : Same H (upd H p o) := fun b x e => by
  rw [upd_ne (ne_of_none e h)]
  exact e
theorem Pool.new {p q : Addr} {H : Hp} {o : HO} (h : Pool H p) (n : H q = none) : Pool (upd H q o) p := by
  obtain ⟨g, s, e, r⟩ := h
  exact ⟨g, s, by rw [upd_ne (ne_of_none e n)]; exact e, r⟩
def spPool (K : PySem.W.Frag) : Sp := fun vs H Q _ => ∃ (a : Addr) (ns : List Int) (k : Nat), vs = [.ref a, .int (k : Int)] ∧ SqL K H a (ns.map V.int) ∧ k < 100 ∧
  ∀ (p : Addr) (g s : Int), 0 ≤ s → s < 2147483647 → H p = none → Q (.ref p) (upd H p (.lst [.int g, .int s]))
def spDraw : Sp := fun vs H Q _ => ∃ (p : Addr) (m : Int), vs = [.ref p, .int m] ∧ Pool H p ∧ 0 < m ∧ m < 1073741824 ∧ ∀ (d : Int) (H' : Hp), 0 ≤ d → d < m → Pool H' p → KeepP p H H' → Q (.int d) H'
def spPick (K : PySem.W.Frag) : Sp := fun vs H Q _ => ∃ (p a : Addr) (xs : List V), vs = [.ref p, .ref a] ∧ Pool H p ∧ a ≠ p ∧ SqL K H a xs ∧ 0 < xs.length ∧ xs.length < 1000 ∧
  ∀ (x : V) (H' : Hp), x ∈ xs → Pool H' p → KeepP p H H' → Q x H'
section
variable {P : Program} {w : World} {K : PySem.W.Frag} {mg : Str → Option Value} {base : Heap}
theorem ok_pool {f : Addr} {fd : FuncData} (F : Fun K "_law_pool" "_law_pool" sPool f fd) (T : Tx mg) : FnOk P w K mg base CX0 1 f fd ["_law_script", "_law_k"] (spPool K) := by
  refine F.ok scPool (fun vs H Q E h => ?_) (fun cdv A outer s H vs Q E hr h => ?_)
  · obtain ⟨a, ns, k, rfl, _⟩ := h
    rfl
  · obtain ⟨a, ns, k, rfl, hS, hk, q⟩ := h
    refine ⟨_, pss_cons (ps_set (i := 2) scPool.nd rfl (Or.inl rfl) pe_int)
      (pss_cons (ps_if (pt_cmpR op_lt (pv 1) (pe_callB call_len_seq (by rfl) T.len PySem.boot_len (pa_cons (pv 0) pa_nil)) (nomark _)) (pss_one (ps_set (i := 2) scPool.nd rfl (Or.inl rfl) (pe_ix ix_list (pv 0) (pv 1) (fun _ _ => rfl)))) pss_nil)
      (pss_cons (ps_set (i := 3) scPool.nd rfl (Or.inl rfl) (pe_callTy call_int1 (by rfl) T.int (by decide +kernel) (pa_cons (pv 2) pa_nil)))
      (pss_cons (ps_if (pt_cmpR op_lt (pv 3) (pe_op op_pow pe_int pe_int) (nomark _)) (pss_one (ps_set (i := 3) scPool.nd rfl (Or.inl rfl) pe_int)) pss_nil)
      (pss_cons (ps_set (i := 4) scPool.nd rfl (Or.inl rfl) (pe_op op_mod (pe_op op_pow (pe_op op_add (pe_op op_add (pe_op op_add (pe_op op_mod (pe_callTy call_int1 (by rfl) T.int (by decide +kernel) (pa_cons (pv 2) pa_nil)) pe_int) (pe_op op_mul (pe_op op_mul pe_int (pv 1)) (pv 1))) (pe_op op_mul pe_int (pv 1))) pe_int) pe_int) pe_int))
      (pss_one (ps_ret (pe_lst (pa_cons (pv 3) (pa_cons (pe_callTy call_int1 (by rfl) T.int (by decide +kernel) (pa_cons (pv 4) pa_nil)) pa_nil))))))))), ?_⟩
    have fin : ∀ (c : Int) (Q' : V → Hp → Prop), True := fun _ _ => trivial
    refine ⟨_, rfl, _, rfl, a, _, rfl, .inl hS, _, _, rfl, rfl, _, rfl, ?_⟩
    refine ite2 (fun hc => ?_) (fun hc => ?_)
    · have hc' := of_decide_eq_true hc
      rw [List.length_map] at hc'
      have hkl : k < ns.length := by omega
      refine ⟨_, rfl, _, rfl, a, ns.map V.int, _, V.int ns[k], rfl, rfl, hS, atI_nat (by rw [List.getElem?_map, List.getElem?_eq_getElem hkl]; rfl), ?_⟩
      refine ⟨_, rfl, .inl ⟨_, rfl, ?_⟩⟩
      refine ⟨_, rfl, 10, 18, rfl, rfl, ⟨by decide, by decide, by decide⟩, _, _, rfl, rfl, _, rfl, ?_⟩
      refine ite2 (fun hg => ?_) (fun hg => ?_)
      all_goals
        refine ⟨_, rfl, .inl ⟨_, rfl, _, _, rfl, rfl, (by show (0 : Int) < _; decide), ?_⟩⟩
        refine ⟨_, rfl, _, _, rfl, rfl, .inl ⟨by decide, by decide⟩, _, rfl, _, _, rfl, rfl, .inr ⟨by omega, by omega⟩, _, _, rfl, rfl, ?_⟩
        refine ⟨_, rfl, _, _, rfl, rfl, .inl ⟨by decide, by decide⟩, _, _, rfl, rfl, _, _, rfl, rfl, ?_⟩
        refine ⟨_, _, rfl, rfl, ⟨by decide, by decide, ?_⟩, _, _, rfl, rfl, (by show (0 : Int) < _; decide), ?_⟩
        · have h1 := Int.emod_nonneg ns[k] (by decide : (2147483629 : Int) ≠ 0)
          have h2 := Int.emod_lt_of_pos ns[k] (by decide : (0 : Int) < 2147483629)
          have h3 : (k : Int) * k ≤ 100 * 100 := Int.mul_le_mul (by omega) (by omega) (by omega) (by omega)
          have h4 : 0 ≤ (k : Int) * k := Int.mul_nonneg (by omega) (by omega)
          have h5 : (104729 : Int) * k * k = 104729 * ((k : Int) * k) := Int.mul_assoc _ _ _
          omega
        · refine ⟨_, rfl, _, rfl, .inl ⟨_, rfl, by show 2 ≤ sizeLine; decide, fun p np => ?_⟩⟩
          exact q p _ _ (Int.emod_nonneg _ (by decide)) (Int.emod_lt_of_pos _ (by decide)) np
    · refine ⟨_, rfl, .inl ⟨_, rfl, ?_⟩⟩
      refine ⟨_, rfl, 10, 18, rfl, rfl, ⟨by decide, by decide, by decide⟩, _, _, rfl, rfl, _, rfl, ?_⟩
      refine ite2 (fun hg => ?_) (fun hg => ?_)
      all_goals
        refine ⟨_, rfl, .inl ⟨_, rfl, _, _, rfl, rfl, (by show (0 : Int) < _; decide), ?_⟩⟩
        refine ⟨_, rfl, _, _, rfl, rfl, .inl ⟨by decide, by decide⟩, _, rfl, _, _, rfl, rfl, .inr ⟨by omega, by omega⟩, _, _, rfl, rfl, ?_⟩
        refine ⟨_, rfl, _, _, rfl, rfl, .inl ⟨by decide, by decide⟩, _, _, rfl, rfl, _, _, rfl, rfl, ?_⟩
        refine ⟨_, _, rfl, rfl, ⟨by decide, by decide, ?_⟩, _, _, rfl, rfl, (by show (0 : Int) < _; decide), ?_⟩
        · have h1 := Int.emod_nonneg 0 (by decide : (2147483629 : Int) ≠ 0)
          have h2 := Int.emod_lt_of_pos 0 (by decide : (0 : Int) < 2147483629)
          have h3 : (k : Int) * k ≤ 100 * 100 := Int.mul_le_mul (by omega) (by omega) (by omega) (by omega)
          have h4 : 0 ≤ (k : Int) * k := Int.mul_nonneg (by omega) (by omega)
          have h5 : (104729 : Int) * k * k = 104729 * ((k : Int) * k) := Int.mul_assoc _ _ _
          omega
        · refine ⟨_, rfl, _, rfl, .inl ⟨_, rfl, by show 2 ≤ sizeLine; decide, fun p np => ?_⟩⟩
          exact q p _ _ (Int.emod_nonneg _ (by decide)) (Int.emod_lt_of_pos _ (by decide)) np
theorem ok_draw {f : Addr} {fd : FuncData} (F : Fun K "_law_draw" "_law_draw" sDraw f fd) (T : Tx mg) : FnOk P w K mg base CX0 1 f fd ["_law_pool_here", "_law_many"] spDraw := by
  refine F.ok scDraw (fun vs H Q E h => ?_) (fun cdv A outer s H vs Q E hr h => ?_)
  · obtain ⟨p, m, rfl, _⟩ := h
    rfl
  · obtain ⟨p, m, rfl, ⟨g, z, hp, z0, z1⟩, m0, m1, q⟩ := h
    refine ⟨_, pss_cons (ps_if (pt_cmpR op_gt (pe_ix ix_list (pv 0) pe_int (fun _ _ => rfl)) pe_int (nomark _))
        (pss_cons (ps_set (i := 2) scDraw.nd rfl (Or.inl rfl) (pe_op op_mod (pe_callTy call_int1 (by rfl) T.int (by decide +kernel) (pa_cons (pe_ix ix_list (pv 0) pe_int (fun _ _ => rfl)) pa_nil)) (pv 1)))
        (pss_cons (ps_asg (pe_op op_fdiv (pe_callTy call_int1 (by rfl) T.int (by decide +kernel) (pa_cons (pe_ix ix_list (pv 0) pe_int (fun _ _ => rfl)) pa_nil)) (pv 1)) (pg_sub (pv 0) pe_int set_list))
        (pss_one (ps_ret (pv 2))))) pss_nil)
      (pss_cons (ps_asg (pe_op op_mod (pe_callTy call_int1 (by rfl) T.int (by decide +kernel) (pa_cons (pe_op op_add (pe_op op_mul (pe_ix ix_list (pv 0) pe_int (fun _ _ => rfl)) pe_int) pe_int) pa_nil)) pe_int) (pg_sub (pv 0) pe_int set_list))
      (pss_one (ps_ret (pe_op op_mod (pe_op op_fdiv (pe_op op_mod (pe_callTy call_int1 (by rfl) T.int (by decide +kernel) (pa_cons (pe_op op_mul (pe_ix ix_list (pv 0) pe_int (fun _ _ => rfl)) (pe_ix ix_list (pv 0) pe_int (fun _ _ => rfl))) pa_nil)) pe_int) pe_int) (pv 1))))), ?_⟩
    refine ⟨_, rfl, p, _, 0, .int g, rfl, rfl, SqL.of hp, atI_nat (j := 0) rfl, _, _, rfl, rfl, _, rfl, ?_⟩
    refine ite2 (fun c => ?_) (fun c => ?_)
    · refine ⟨_, rfl, p, _, 0, .int g, rfl, rfl, SqL.of hp, atI_nat (j := 0) rfl, .inl ⟨_, rfl, _, rfl, _, _, rfl, rfl, m0, ?_⟩⟩
      refine ⟨_, rfl, p, _, 0, .int g, rfl, rfl, SqL.of hp, atI_nat (j := 0) rfl, .inl ⟨_, rfl, _, rfl, _, _, rfl, rfl, ⟨m0, m1⟩, ?_⟩⟩
      refine ⟨_, rfl, p, _, 0, 0, rfl, rfl, hp, rfl, ?_⟩
      refine ⟨_, rfl, q _ _ (Int.emod_nonneg _ (by omega)) (Int.emod_lt_of_pos _ m0) ⟨_, z, upd_same, z0, z1⟩ KeepP.upd⟩
    · refine ⟨_, rfl, p, _, 1, .int z, rfl, rfl, SqL.of hp, atI_nat (j := 1) rfl, _, _, rfl, rfl, .inl ⟨by omega, by omega⟩, _, _, rfl, rfl, .inl ⟨_, rfl, _, _, rfl, rfl, (by show (0 : Int) < _; decide), ?_⟩⟩
      refine ⟨_, rfl, p, _, 1, 1, rfl, rfl, hp, rfl, ?_⟩
      have s0 := Int.emod_nonneg (z * 48271 + 11) (by decide : (2147483647 : Int) ≠ 0)
      have s1 := Int.emod_lt_of_pos (z * 48271 + 11) (by decide : (0 : Int) < 2147483647)
      refine ⟨_, rfl, p, _, 1, _, rfl, rfl, SqL.of upd_same, atI_nat (j := 1) rfl, _, rfl, p, _, 1, _, rfl, rfl, SqL.of upd_same, atI_nat (j := 1) rfl, _, _, rfl, rfl, .inl ⟨by omega, by omega⟩, .inl ⟨_, rfl, _, _, rfl, rfl, (by show (0 : Int) < _; decide), _, _, rfl, rfl, ⟨by decide, by decide⟩, _, rfl, _, _, rfl, rfl, m0, ?_⟩⟩
      exact q _ _ (Int.emod_nonneg _ (by omega)) (Int.emod_lt_of_pos _ m0) ⟨g, _, upd_same, s0, s1⟩ KeepP.upd
theorem ok_pick {f fD : Addr} {fd fdD : FuncData} (F : Fun K "_law_pick" "_law_pick" sPick f fd) (T : Tx mg) (mD : mg "_law_draw" = some (.ref fD)) (kD : PySem.W.keepIn K (.ref fD) = true) (bD : Binds K fdD ["_law_pool_here", "_law_many"] []) (GD : FnOk P w K mg base CX0 1 fD fdD ["_law_pool_here", "_law_many"] spDraw) : FnOk P w K mg base CX0 2 f fd ["_law_pool_here", "_law_items"] (spPick K) := by
  refine F.ok scPick (fun vs H Q E h => ?_) (fun cdv A outer s H vs Q E hr h => ?_)
  · obtain ⟨p, a, xs, rfl, _⟩ := h
    rfl
  · obtain ⟨p, a, xs, rfl, hp, np, hS, l0, l1, q⟩ := h
    refine ⟨_, pss_one (ps_ret (pe_ix ix_list (pv 1) (pe_call GD hr (by rfl) mD kD bD .nil pass0 (pa_cons (pv 0) (pa_cons (pe_callB call_len_seq (by rfl) T.len PySem.boot_len (pa_cons (pv 1) pa_nil)) pa_nil))) (fun _ _ => rfl))), ?_⟩
    refine ⟨_, rfl, _, rfl, _, rfl, a, _, rfl, .inl hS, p, _, rfl, hp, by omega, by omega, fun d H' d0 d1 hp' kp => ?_⟩
    obtain ⟨j, rfl⟩ : ∃ j : Nat, d = (j : Int) := ⟨d.toNat, by omega⟩
    have hj : j < xs.length := by omega
    refine ⟨a, xs, (j : Int), xs[j], rfl, rfl, kp.seq np hS, atI_nat (List.getElem?_eq_getElem hj), q _ _ (List.getElem_mem hj) hp' kp⟩
end
end K1
namespace K1
open PySem PySem.Spec PyProof.Rows L2
theorem scWd : FnScope ["_law_pool_here", "_law_signs", "_law_turn"] ["_law_pool_here"] (defScope sWd) := ⟨rfl, rfl, rfl, by decide +kernel, rfl, by decide +kernel, by decide +kernel⟩
theorem scLow : FnScope ["_law_word_here", "_law_sign"] ["_law_word_here"] (defScope sLow) := ⟨rfl, rfl, rfl, by decide +kernel, rfl, by decide +kernel, by decide +kernel⟩
theorem scDue : FnScope ["_law_word_here", "_law_first"] ["_law_word_here"] (defScope sDue) := ⟨rfl, rfl, rfl, by decide +kernel, rfl, by decide +kernel, by decide +kernel⟩
def spWd : Sp := fun vs H Q _ => ∃ p : Addr, vs = [.ref p] ∧ Pool H p ∧ ∀ (z : Str) (H' : Hp), z.length ≤ 10 → Pool H' p → KeepP p H H' → Q (.str z) H'
def spLow : Sp := fun vs H Q _ => ∃ z : Str, vs = [.str z] ∧ z.length ≤ 1000 ∧ ∀ H' : Hp, Same H H' → Q (.bl (lowL z.cps.toList)) H'
/-- what is due -/
def dueL (l : List Nat) : Bool × Bool := (nameL l, consL l)
def spDue : Sp := fun vs H Q _ => ∃ z : Str, vs = [.str z] ∧ z.length ≤ 1000 ∧ ∀ (p : Addr) (H' : Hp), Same H H' → H' p = some (.lst [.bl (nameL z.cps.toList), .bl (consL z.cps.toList)]) → Q (.ref p) H'
theorem sum_ones : ∀ ys : List Str, (∀ y ∈ ys, y.length = 1) → (ys.map (·.length)).sum = ys.length
  | [], _ => rfl
  | y :: ys, h => by
    rw [List.map_cons, List.sum_cons, sum_ones ys fun x hx => h x (List.mem_cons_of_mem _ hx), h y List.mem_cons_self, List.length_cons]
    omega
section
variable {P : Program} {w : World} {K : PySem.W.Frag} {mg : Str → Option Value} {base : Heap}
theorem ok_low {f : Addr} {fd : FuncData} (F : Fun K "_law_is_low" "_law_is_low" sLow f fd) (T : Tx mg) : FnOk P w K mg base CX0 1 f fd ["_law_word_here"] spLow := by
  refine F.ok scLow (fun vs H Q E h => ?_) (fun cdv A outer s H vs Q E hr h => ?_)
  · obtain ⟨z, rfl, _⟩ := h
    rfl
  · obtain ⟨z, rfl, hz, q⟩ := h
    refine ⟨_, pss_one (ps_ret (pe_cmpR op_eq (pe_callB call_len_seq (by rfl) T.len PySem.boot_len (pa_cons
      (pe_lc (own := [("_law_sign", 1)]) (g := gName 1) rfl scLow.nd (pi_str (pv 0)) (blkOk_by (N := ["_law_word_here", "_law_sign"]) (sc := defScope sLow) (by decide +kernel)) (fun _ _ _ _ _ => pg_name (i := 1) scLow.nd rfl (Or.inl rfl)) (fun _ _ _ _ _ => pts_one (pt_cmpR op_notIn_sign (pv 1) pe_str rfl)) (fun _ _ _ _ _ => pv 1)) pa_nil)) pe_int (nomark _))), ?_⟩
    refine ⟨_, rfl, z, rfl, fun D nD => lc_it walk_str (fun i H' => Same H H' ∧ ∃ acc : List V, H' D = some (.lst acc) ∧ acc.length ≤ i ∧ (acc.length = 0 ↔ lowL (z.cps.toList.take i) = true)) ⟨same_new nD, [], upd_same, Nat.le_refl _, by simp [lowL]⟩ (fun _ _ _ _ => trivial) ?_ ?_⟩
    · rintro i x H1 H2 hi ⟨sm, acc, hD, hl, hiff⟩ ⟨rfl, c, hc, rfl⟩
      have hc' : z.cps.toList[i]? = some c := by rw [Array.getElem?_toList]; exact hc
      have et : z.cps.toList.take (i + 1) = z.cps.toList.take i ++ [c] := by rw [List.take_add_one, hc']; rfl
      have ea : lowL (z.cps.toList.take (i + 1)) = (lowL (z.cps.toList.take i) && lowB c) := by
        rw [et]
        unfold lowL
        rw [List.all_append]
        simp
      refine ⟨rfl, _, rfl, c, _, rfl, rfl, _, rfl, ?_⟩
      have em : decide (c ∈ ("abcdefghijklmnopqrstuvwxyz" : Str).cps.toList) = lowB c := mem_abc c
      rw [em]
      cases hb : lowB c with
      | true =>
        rw [hb, Bool.and_true] at ea
        refine iteF ⟨sm, acc, hD, Nat.le_succ_of_le hl, ?_⟩
        rw [ea]
        exact hiff
      | false =>
        rw [hb, Bool.and_false] at ea
        have hz' : i < 1000 := Nat.lt_of_lt_of_le hi hz
        refine iteT ⟨_, rfl, acc, hD, Nat.lt_of_le_of_lt hl (small1000 (by omega)), ?_, _, upd_same, ?_, ?_⟩
        · intro b o e
          by_cases hb : b = D
          · subst hb
            rw [nD] at e
            cases e
          · rw [upd_ne hb]
            exact sm b o e
        · rw [List.length_append, List.length_singleton]
          omega
        · rw [ea, List.length_append, List.length_singleton]
          constructor
          · intro e
            omega
          · intro e
            cases e
    · rintro H' ⟨sm, acc, hD, hl, hiff⟩
      refine ⟨D, acc, rfl, .inl (SqL.of hD), rfl, ?_⟩
      have et : z.cps.toList.take z.cps.size = z.cps.toList := List.take_of_length_le (by rw [Array.length_toList]; exact Nat.le_refl _)
      rw [et] at hiff
      have e : decide (V.int ((acc.length : Nat) : Int) = V.int 0) = lowL z.cps.toList := by
        cases h : lowL z.cps.toList with
        | true =>
          have := hiff.mpr h
          exact decide_eq_true (by rw [this]; rfl)
        | false =>
          refine decide_eq_false fun e => ?_
          injection e with e
          have := hiff.mp (by omega)
          rw [h] at this
          cases this
      rw [e]
      exact q _ sm
theorem ok_wd {f fD fP : Addr} {fd fdD fdP : FuncData} (F : Fun K "_law_word" "_law_word" sWd f fd) (T : Tx mg) (mD : mg "_law_draw" = some (.ref fD)) (kD : PySem.W.keepIn K (.ref fD) = true) (bD : Binds K fdD ["_law_pool_here", "_law_many"] []) (GD : FnOk P w K mg base CX0 1 fD fdD ["_law_pool_here", "_law_many"] spDraw)
    (mP : mg "_law_pick" = some (.ref fP)) (kP : PySem.W.keepIn K (.ref fP) = true) (bP : Binds K fdP ["_law_pool_here", "_law_items"] []) (GP : FnOk P w K mg base CX0 2 fP fdP ["_law_pool_here", "_law_items"] (spPick K)) : FnOk P w K mg base CX0 3 f fd ["_law_pool_here"] spWd := by
  refine F.ok scWd (fun vs H Q E h => ?_) (fun cdv A outer s H vs Q E hr h => ?_)
  · obtain ⟨p, rfl, _⟩ := h
    rfl
  · obtain ⟨p, rfl, hp, q⟩ := h
    have hr1 : Room 1 _ := hr.mono (by decide)
    refine ⟨_, pss_cons (ps_set (i := 1) scWd.nd rfl (Or.inr rfl) (pe_call GP hr (by rfl) mP kP bP .nil pass0 (pa_cons (pv 0) (pa_cons (pe_lst (pa_cons pe_str (pa_cons pe_str (pa_cons pe_str (pa_cons pe_str (pa_cons pe_str pa_nil)))))) pa_nil))))
      (pss_one (ps_ret (pe_join pe_str (pe_lc (own := [("_law_turn", 2)]) (g := gName 2) (tt := tYes) rfl scWd.nd (pi_range1 (by rfl) T.range (pa_cons (pe_call GD hr1 (by rfl) mD kD bD .nil pass0 (pa_cons (pv 0) (pa_cons pe_int pa_nil))) pa_nil))
        (blkOk_by (N := ["_law_pool_here", "_law_signs", "_law_turn"]) (sc := defScope sWd) (by decide +kernel)) (fun _ _ _ _ _ => pg_name (i := 2) scWd.nd rfl (Or.inl rfl)) (fun _ _ _ _ _ => pts_nil)
        (fun _ _ _ _ _ => pe_ix ix_str (pv 1) (pe_call GD hr1 (by rfl) mD kD bD .nil pass0 (pa_cons (pv 0) (pa_cons (pe_callB call_len_str (by rfl) T.len PySem.boot_len (pa_cons (pv 1) pa_nil)) pa_nil))) (fun _ _ => rfl)))))), ?_⟩
    refine ⟨_, rfl, by show 5 ≤ sizeLine; decide, fun a na => ?_⟩
    have npa : a ≠ p := by
      obtain ⟨_, _, e, _⟩ := hp
      exact (ne_of_none e na).symm
    refine ⟨p, a, _, rfl, hp.new na, npa, SqL.of upd_same, by show 0 < 5; decide, by show 5 < 1000; decide, fun x H1 hx hp1 kp1 => ?_⟩
    obtain ⟨z, rfl, z0, z1⟩ : ∃ z : Str, x = .str z ∧ 0 < z.length ∧ z.length ≤ 10 := by
      simp only [List.mem_cons, List.not_mem_nil, or_false] at hx
      rcases hx with rfl | rfl | rfl | rfl | rfl <;> exact ⟨_, rfl, by decide +kernel, by decide +kernel⟩
    have k1 : KeepP p H H1 := (KeepP.new na).trans kp1
    refine ⟨⟨_, rfl⟩, ?_⟩
    refine ⟨_, rfl, p, 11, rfl, hp1, by decide, by decide, fun d H2 d0 d1 hp2 kp2 => ?_⟩
    refine ⟨d, rfl, by omega, by omega, fun D nD => ?_⟩
    have nDp : D ≠ p := by
      obtain ⟨_, _, e, _⟩ := hp2
      exact (ne_of_none e nD).symm
    have k2 : KeepP p H H2 := k1.trans kp2
    refine lc_range (lo := 0) (n := d.toNat) (fun i H' => KeepP p H H' ∧ Pool H' p ∧ ∃ ys : List Str, H' D = some (.lst (ys.map V.str)) ∧ ys.length = i ∧ ∀ y ∈ ys, y.length = 1) ⟨k2.trans (KeepP.new nD), hp2.new nD, [], upd_same, rfl, by simp⟩ ?_ ?_
    · rintro i H3 hi ⟨k3, hp3, ys, hD, hl, hys⟩
      refine ⟨rfl, ?_⟩
      unfold tYes
      refine iteT ?_
      refine ⟨_, rfl, _, rfl, _, rfl, z, rfl, k1000 (by omega), p, _, rfl, hp3, by omega, by omega, fun e H4 e0 e1 hp4 kp4 => ?_⟩
      obtain ⟨j, rfl⟩ : ∃ j : Nat, e = (j : Int) := ⟨e.toNat, by omega⟩
      have hj : j < z.cps.toList.length := by rw [← size_arr]; omega
      refine ⟨z, (j : Int), z.cps.toList[j], rfl, rfl, k1000 (by omega), atI_nat (List.getElem?_eq_getElem hj), ys.map V.str, kp4 _ _ nDp hD, ?_, ?_⟩
      · rw [List.length_map, hl]
        exact small1000 (by omega)
      · refine ⟨fun b o nb e => ?_, ?_, ys ++ [⟨#[z.cps.toList[j]]⟩], ?_, ?_, ?_⟩
        · by_cases hb : b = D
          · subst hb
            have : H2 b = some o := k2 b o nb e
            rw [nD] at this
            cases this
          · rw [upd_ne hb]
            exact kp4 b o nb (k3 b o nb e)
        · obtain ⟨g, s', e4, r4⟩ := hp4
          exact ⟨g, s', by rw [upd_ne nDp.symm]; exact e4, r4⟩
        · rw [upd_same, List.map_append]
          rfl
        · rw [List.length_append, List.length_singleton, hl]
        · intro y hy
          rcases List.mem_append.mp hy with hy | hy
          · exact hys y hy
          · rw [List.mem_singleton.mp hy]
            rfl
    · rintro H3 ⟨k3, hp3, ys, hD, hl, hys⟩
      have hs : (ys.map (·.length)).sum = ys.length := sum_ones ys hys
      have e0 : ("" : Str).length = 0 := by decide +kernel
      refine ⟨_, D, ys, rfl, rfl, .inl (SqL.of hD), ?_, ?_⟩
      · rw [hs, e0]
        omega
      · refine q _ _ ?_ hp3 k3
        have := StrLaws.join_length_le ("" : Str) ys
        rw [TL.join_eq]
        rw [hs, e0] at this
        omega
end
end K1
namespace K1
open PySem PySem.Spec PyProof.Rows L2
section
variable {P : Program} {w : World} {K : PySem.W.Frag} {mg : Str → Option Value} {base : Heap}
theorem ok_due {f fL : Addr} {fd fdL : FuncData} (F : Fun K "_law_due" "_law_due" sDue f fd) (T : Tx mg) (mL : mg "_law_is_low" = some (.ref fL)) (kL : PySem.W.keepIn K (.ref fL) = true) (bL : Binds K fdL ["_law_word_here"] []) (GL : FnOk P w K mg base CX0 1 fL fdL ["_law_word_here"] spLow) : FnOk P w K mg base CX0 2 f fd ["_law_word_here"] spDue := by
  refine F.ok scDue (fun vs H Q E h => ?_) (fun cdv A outer s H vs Q E hr h => ?_)
  · obtain ⟨z, rfl, _⟩ := h
    rfl
  · obtain ⟨z, rfl, hz, q⟩ := h
    refine ⟨_, pss_cons (ps_if (pt_not (pt_chain op_le op_le pe_int (pe_callB call_len_str (by rfl) T.len PySem.boot_len (pa_cons (pv 0) pa_nil)) pe_int)) (pss_one (ps_ret (pe_lst (pa_cons pe_bl (pa_cons pe_bl pa_nil))))) pss_nil)
      (pss_cons (ps_set (i := 1) scDue.nd rfl (Or.inl rfl) (pe_cmpR op_in_sign (pe_ix ix_str (pv 0) pe_int (fun _ _ => rfl)) pe_str rfl))
      (pss_one (ps_ret (pe_lst (pa_cons (pe_call GL hr (by rfl) mL kL bL .nil pass0 (pa_cons (pv 0) pa_nil)) (pa_cons (pe_and (pv 1) (pe_one (pe_call GL hr (by rfl) mL kL bL .nil pass0 (pa_cons (pe_slice sl_str (pv 0) (po_some pe_int) po_none) pa_nil)))) pa_nil)))))), ?_⟩
    have two : (2 : Nat) ≤ sizeLine := by decide
    refine ⟨_, rfl, z, rfl, k1000 hz, _, _, rfl, rfl, _, rfl, ?_⟩
    refine ite2 (fun c1 => ?_) (fun c1 => ?_)
    · have c1' := of_decide_eq_true c1
      refine ⟨_, _, rfl, rfl, _, rfl, ?_⟩
      by_cases h8 : z.length ≤ 8
      · rw [decide_eq_true (show ((z.length : Nat) : Int) ≤ 8 by omega)]
        refine iteF ?_
        have ln : z.cps.toList ≠ [] := fun e => by
          have := size_arr z
          rw [e] at this
          have : z.length = 0 := this
          omega
        cases el : z.cps.toList with
        | nil => exact absurd el ln
        | cons c r =>
          rw [el] at q
          have hl8 : (c :: r).length ≤ 8 := by
            rw [← el, ← size_arr]
            exact h8
          have eN : nameL (c :: r) = lowL (c :: r) := by
            unfold nameL
            rw [decide_eq_true hl8, decide_eq_true (show 1 ≤ (c :: r).length by rw [List.length_cons]; omega)]
            rfl
          have eC : consL (c :: r) = (upB c && lowL r) := by
            unfold consL
            rw [decide_eq_true hl8]
            rfl
          rw [eN, eC] at q
          refine ⟨_, rfl, z, 0, c, rfl, rfl, k1000 hz, by rw [el]; exact atI_nat (j := 0) rfl, c, _, rfl, rfl, ?_⟩
          have em : decide (c ∈ ("ABCDEFGHIJKLMNOPQRSTUVWXYZ" : Str).cps.toList) = upB c := mem_ABC c
          rw [em]
          refine ⟨_, rfl, z, rfl, hz, fun H1 s1 => ?_⟩
          rw [el]
          refine ⟨_, rfl, upB c, rfl, ?_⟩
          refine ite2 (fun hu => ?_) (fun hu => ?_)
          · rw [hu] at q
            refine ⟨_, rfl, 1, rfl, z, rfl, k1000 hz, cutS z (some 1) none, rfl, Nat.le_trans (cutS_length z _ _) hz, fun H2 s2 => ⟨two, fun p np => ?_⟩⟩
            rw [cut1, el]
            refine q p _ ((s1.trans s2).trans (same_new np)) ?_
            rw [upd_same]
            rfl
          · have hu' : upB c = false := by
              cases h : upB c with
              | false => rfl
              | true => exact absurd h hu
            rw [hu'] at q
            exact ⟨two, fun p np => q p _ (s1.trans (same_new np)) upd_same⟩
      · rw [decide_eq_false (show ¬ ((z.length : Nat) : Int) ≤ 8 by omega)]
        refine iteT ⟨two, fun p np => q p _ (same_new np) ?_⟩
        have e8 : decide (z.cps.toList.length ≤ 8) = false := decide_eq_false (by rw [← size_arr]; exact h8)
        unfold nameL consL
        rw [upd_same, e8, Bool.and_false, Bool.false_and, Bool.false_and]
    · have c1' : ¬ (1 : Int) ≤ ((z.length : Nat) : Int) := fun h => c1 (decide_eq_true h)
      have e0 : z.cps.toList = [] := by
        have := size_arr z
        cases el : z.cps.toList with
        | nil => rfl
        | cons c r =>
          rw [el, List.length_cons] at this
          omega
      refine ⟨false, rfl, iteT ⟨two, fun p np => q p _ (same_new np) ?_⟩⟩
      rw [upd_same, e0]
      rfl
end
end K1
namespace K1
open PySem PySem.Spec PyProof.Rows L2
theorem scLaw : FnScope ["_law_script", "_law_k", "_law_pool_here", "_law_cuts", "_law_word_here", "_law_value"] ["_law_script"] (defScope sLaw) := ⟨rfl, rfl, rfl, by decide +kernel, rfl, by decide +kernel, by decide +kernel⟩
def spLaw (K : PySem.W.Frag) : Sp := fun vs H Q _ => ∃ (a : Addr) (ns : List Int), vs = [.ref a] ∧ SqL K H a (ns.map V.int) ∧ ns.length ≤ 63 ∧ ∀ H', Q (.bl true) H'
theorem keep_same {p : Addr} {H H1 H2 : Hp} (a : Same H H1) (n : H p = none) (k : KeepP p H1 H2) : Same H H2 := fun b o e => k b o (ne_of_none e n) (a b o e)
theorem len_app (a b : Str) : (a ++ b).length = a.length + b.length := by
  show (a.cps ++ b.cps).size = a.cps.size + b.cps.size
  rw [Array.size_append]
theorem eqv2 (a b : Bool) : PyData.eqv (.list [.bool a, .bool b]) (.list [.bool a, .bool b]) = true := by cases a <;> cases b <;> decide +kernel
section
variable {P : Program} {w : World} {K : PySem.W.Frag} {mg : Str → Option Value} {base : Heap}
theorem ok_law {f fN fC fP fD fW fU : Addr} {fd fdN fdC fdP fdD fdW fdU : FuncData} (F : Fun K "law" "law" sLaw f fd) (T : Tx mg)
    (mN : mg "is_name" = some (.ref fN)) (kN : PySem.W.keepIn K (.ref fN) = true) (bN : Binds K fdN ["value"] []) (GN : FnOk P w K mg base CX0 2 fN fdN ["value"] (spName K))
    (mC : mg "is_constructor" = some (.ref fC)) (kC : PySem.W.keepIn K (.ref fC) = true) (bC : Binds K fdC ["value"] []) (GC : FnOk P w K mg base CX0 2 fC fdC ["value"] (spCons K))
    (mP : mg "_law_pool" = some (.ref fP)) (kP : PySem.W.keepIn K (.ref fP) = true) (bP : Binds K fdP ["_law_script", "_law_k"] []) (GP : FnOk P w K mg base CX0 1 fP fdP ["_law_script", "_law_k"] (spPool K))
    (mD : mg "_law_draw" = some (.ref fD)) (kD : PySem.W.keepIn K (.ref fD) = true) (bD : Binds K fdD ["_law_pool_here", "_law_many"] []) (GD : FnOk P w K mg base CX0 1 fD fdD ["_law_pool_here", "_law_many"] spDraw)
    (mW : mg "_law_word" = some (.ref fW)) (kW : PySem.W.keepIn K (.ref fW) = true) (bW : Binds K fdW ["_law_pool_here"] []) (GW : FnOk P w K mg base CX0 3 fW fdW ["_law_pool_here"] spWd)
    (mU : mg "_law_due" = some (.ref fU)) (kU : PySem.W.keepIn K (.ref fU) = true) (bU : Binds K fdU ["_law_word_here"] []) (GU : FnOk P w K mg base CX0 2 fU fdU ["_law_word_here"] spDue) :
    FnOk P w K mg base CX0 4 f fd ["_law_script"] (spLaw K) := by
  refine F.ok scLaw (fun vs H Q E h => ?_) (fun cdv A outer s H vs Q E hr h => ?_)
  · obtain ⟨a, ns, rfl, _⟩ := h
    rfl
  · obtain ⟨a, ns, rfl, hS, hlen, q⟩ := h
    have hr1 : Room 1 _ := hr.mono (by decide)
    have hr2 : Room 2 _ := hr.mono (by decide)
    refine ⟨_, pss_cons (ps_for PassesOwn.never rfl (pi_range1 (by rfl) T.range (pa_cons (pe_callB (call_max2 rfl) (by rfl) T.max boot_max (pa_cons pe_int (pa_cons (pe_callB (call_min2 rfl) (by rfl) T.min boot_min (pa_cons (pe_callB call_len_seq (by rfl) T.len PySem.boot_len (pa_cons (pv 0) pa_nil)) (pa_cons pe_int pa_nil))) pa_nil))) pa_nil)) (pg_name (i := 1) scLaw.nd rfl (Or.inl rfl))
        (pss_cons (ps_set (i := 2) scLaw.nd rfl (Or.inl rfl) (pe_call GP hr1 (by rfl) mP kP bP .nil pass0 (pa_cons (pv 0) (pa_cons (pv 1) pa_nil))))
        (pss_cons (ps_set (i := 3) scLaw.nd rfl (Or.inl rfl) (pe_lst (pa_cons (pe_slice sl_str pe_str po_none (po_some (pe_op op_add pe_int (pe_call GD hr1 (by rfl) mD kD bD .nil pass0 (pa_cons (pv 2) (pa_cons pe_int pa_nil))))))
          (pa_cons (pe_slice sl_str pe_str po_none (po_some (pe_op op_add pe_int (pe_call GD hr1 (by rfl) mD kD bD .nil pass0 (pa_cons (pv 2) (pa_cons pe_int pa_nil)))))) pa_nil))))
        (pss_one (ps_for PassesOwn.never rfl (pi_list (pe_op op_cat (pe_lst (pa_cons (pe_call GW hr (by rfl) mW kW bW .nil pass0 (pa_cons (pv 2) pa_nil)) (pa_cons (pe_call GW hr (by rfl) mW kW bW .nil pass0 (pa_cons (pv 2) pa_nil)) pa_nil))) (pv 3))) (pg_name (i := 4) scLaw.nd rfl (Or.inl rfl))
          (pss_cons (ps_for PassesOwn.never rfl (pi_list (pe_lst (pa_cons (pv 4) (pa_cons (pe_op op_add_str (pv 4) pe_str) (pa_cons (pe_op op_add_str (pv 4) pe_str) (pa_cons (pe_upper (pv 4)) (pa_cons (pe_lower (pv 4)) (pa_cons (pe_op op_add_str pe_str (pv 4)) (pa_cons (pe_op op_add_str (pv 4) pe_str) pa_nil))))))))) (pg_name (i := 5) scLaw.nd rfl (Or.inl rfl))
            (pss_one (ps_if (pt_cmpR (op_neD hr.units) (pe_lst (pa_cons (pe_call GN hr2 (by rfl) mN kN bN .nil pass0 (pa_cons (pv 5) pa_nil)) (pa_cons (pe_call GC hr2 (by rfl) mC kC bC .nil pass0 (pa_cons (pv 5) pa_nil)) pa_nil))) (pe_call GU hr2 (by rfl) mU kU bU .nil pass0 (pa_cons (pv 5) pa_nil)) (nomark _)) (pss_one (ps_ret pe_bl)) pss_nil)))
          (pss_one (ps_for PassesOwn.never rfl (pi_list (pe_lst (pa_cons pe_non (pa_cons pe_int (pa_cons pe_bl (pa_cons (pe_lst (pa_cons (pv 4) pa_nil)) (pa_cons (pe_tup (pa_cons (pv 4) pa_nil)) (pa_cons (pe_disp (pps_cons (pv 4) pe_int pps_nil) (by rfl) (by rfl) (fun z => by cases z) (by decide)) pa_nil)))))))) (pg_name (i := 5) scLaw.nd rfl (Or.inl rfl))
            (pss_one (ps_if (PW.pt (pw_or (pt_cmpR op_isnot_bl (pe_call GN hr2 (by rfl) mN kN bN .nil pass0 (pa_cons (pv 5) pa_nil)) pe_bl (nomark _)) (pw_or1 (pt_cmpR op_isnot_bl (pe_call GC hr2 (by rfl) mC kC bC .nil pass0 (pa_cons (pv 5) pa_nil)) pe_bl (nomark _))))) (pss_one (ps_ret pe_bl)) pss_nil))))))))))
      (pss_one (ps_ret pe_bl)), ?_⟩
    refine ⟨_, rfl, a, _, rfl, .inl hS, _, _, rfl, _, _, rfl, ?_⟩
    rw [List.length_map]
    generalize hN : (if (if (6 : Int) < (ns.length : Nat) then (6 : Int) else ((ns.length : Nat) : Int)) > 1 then (if (6 : Int) < (ns.length : Nat) then (6 : Int) else ((ns.length : Nat) : Int)) else (1 : Int)) = N
    have hN6 : 1 ≤ N ∧ N ≤ 6 := by
      rw [← hN]
      constructor
      · split
        · omega
        · omega
      · split
        · split <;> omega
        · omega
    refine ⟨N, rfl, by omega, by omega, ?_⟩
    refine for_range (lo := 0) (n := N.toNat) (fun i σ H' => ∃ o1 o2 o3 o4 o5, σ = [some (.ref a), o1, o2, o3, o4, o5] ∧ Same H H') ⟨_, _, _, _, _, rfl, Same.refl H⟩ ?_ ?_
    · rintro i σ H0 hi ⟨o1, o2, o3, o4, o5, rfl, sm0⟩
      -- the pool
      refine ⟨_, rfl, _, rfl, a, ns, i, by rw [Int.zero_add]; rfl, sm0.seq hS, by omega, fun p g z z0 z1 np => ?_⟩
      have npH : H p = none := sm0.free np
      have sm1 : Same H (upd H0 p (.lst [.int g, .int z])) := sm0.trans (same_new np)
      have hp1 : Pool (upd H0 p (.lst [.int g, .int z])) p := ⟨g, z, upd_same, z0, z1⟩
      revert hp1 sm1
      generalize upd H0 p (.lst [.int g, .int z]) = H1
      intro sm1 hp1
      -- the cuts
      refine ⟨_, rfl, p, 8, rfl, hp1, by decide, by decide, fun d1 H2 d1a d1b hp2 kp2 => ⟨_, _, rfl, rfl, _, rfl, _, rfl, by decide +kernel, ?_⟩⟩
      refine ⟨_, rfl, p, 9, rfl, hp2, by decide, by decide, fun d2 H3 d2a d2b hp3 kp3 => ⟨_, _, rfl, rfl, _, rfl, _, rfl, by decide +kernel, ?_⟩⟩
      have sm3 : Same H H3 := keep_same (keep_same sm1 npH kp2) npH kp3
      have lc1 : (cutS ("abcdefgh" : Str) none (some (1 + d1))).length ≤ 10 := Nat.le_trans (cutS_length _ _ _) (by decide +kernel)
      have lc2 : (cutS ("Abcdefghi" : Str) none (some (1 + d2))).length ≤ 10 := Nat.le_trans (cutS_length _ _ _) (by decide +kernel)
      revert lc1 lc2
      generalize cutS ("abcdefgh" : Str) none (some (1 + d1)) = c1
      generalize cutS ("Abcdefghi" : Str) none (some (1 + d2)) = c2
      intro lc1 lc2
      refine ⟨by show 2 ≤ sizeLine; decide, fun l nl => ?_⟩
      have hp4 := hp3.new (o := .lst [.str c1, .str c2]) nl
      have npl : l ≠ p := by
        obtain ⟨_, _, e, _⟩ := hp3
        exact (ne_of_none e nl).symm
      have sm4 : Same H (upd H3 l (.lst [.str c1, .str c2])) := sm3.trans (same_new nl)
      have hl4 : (upd H3 l (.lst [.str c1, .str c2])) l = some (.lst [.str c1, .str c2]) := upd_same
      revert hp4 sm4 hl4
      generalize upd H3 l (.lst [.str c1, .str c2]) = H4
      intro hp4 sm4 hl4
      -- the words
      refine ⟨_, rfl, p, rfl, hp4, fun w1 H5 lw1 hp5 kp5 => ⟨_, rfl, p, rfl, hp5, fun w2 H6 lw2 hp6 kp6 => ⟨by show 2 ≤ sizeLine; decide, fun m nm => ?_⟩⟩⟩
      have hl6 : H6 l = some (.lst [.str c1, .str c2]) := kp6 _ _ npl (kp5 _ _ npl hl4)
      have nml : l ≠ m := ne_of_none hl6 nm
      have sm6 : Same H H6 := keep_same (keep_same sm4 npH kp5) npH kp6
      refine ⟨_, rfl, m, l, _, _, rfl, rfl, upd_same, by rw [upd_ne nml]; exact hl6, by show 4 ≤ sizeLine; decide, fun r nr => ?_⟩
      have sm7 : Same H (upd (upd H6 m (.lst [.str w1, .str w2])) r (.lst ([.str w1, .str w2] ++ [.str c1, .str c2]))) := (sm6.trans (same_new nm)).trans (same_new nr)
      have hr7 : (upd (upd H6 m (.lst [.str w1, .str w2])) r (.lst ([.str w1, .str w2] ++ [.str c1, .str c2]))) r = some (.lst [.str w1, .str w2, .str c1, .str c2]) := upd_same
      revert sm7 hr7
      generalize upd (upd H6 m (.lst [.str w1, .str w2])) r (.lst ([.str w1, .str w2] ++ [.str c1, .str c2])) = H7
      intro sm7 hr7
      refine ⟨r, rfl, ⟨_, SqL.of hr7⟩, for_list (K := K) (a := r) (xs := [.str w1, .str w2, .str c1, .str c2]) (fun j σ H' => ∃ y1 y2 y3 y4 y5, σ = [some (.ref a), y1, y2, y3, y4, y5] ∧ Same H7 H') ⟨_, _, _, _, _, rfl, Same.refl H7⟩ (fun j σ H' _ ⟨_, _, _, _, _, _, sm⟩ => sm.seq (SqL.of hr7)) ?_ ?_⟩
      · rintro j y σ H8 hj ⟨y1, y2, y3, y4, y5, rfl, sm8⟩
        obtain ⟨u, rfl, lu⟩ : ∃ u : Str, y = .str u ∧ u.length ≤ 10 := by
          have hm := List.mem_of_getElem? hj
          simp only [List.mem_cons, List.not_mem_nil, or_false] at hm
          rcases hm with rfl | rfl | rfl | rfl
          · exact ⟨_, rfl, lw1⟩
          · exact ⟨_, rfl, lw2⟩
          · exact ⟨_, rfl, lc1⟩
          · exact ⟨_, rfl, lc2⟩
        have la : ("a" : Str).length = 1 := by decide +kernel
        have lA : ("A" : Str).length = 1 := by decide +kernel
        have lb : (" " : Str).length = 1 := by decide +kernel
        have ln : ("\n" : Str).length = 1 := by decide +kernel
        have kl : ∀ n : Nat, n ≤ 100 → n ≤ sizeLine := fun n h => Nat.le_trans h (by decide)
        -- for value in the seven texts
        refine ⟨_, rfl, _, rfl, _, _, rfl, rfl, kl _ (by omega), _, rfl, _, _, rfl, rfl, kl _ (by omega), _, rfl, ⟨_, rfl⟩, u, rfl, rfl, by omega, _, rfl, ⟨_, rfl⟩, u, rfl, rfl, by omega, _, rfl, _, _, rfl, rfl, kl _ (by omega), _, rfl, _, _, rfl, rfl, kl _ (by omega), by show 7 ≤ sizeLine; decide, fun v nv => ?_⟩
        refine ⟨v, rfl, ⟨_, SqL.of upd_same⟩, for_list (K := K) (a := v) (xs := _) (fun i2 σ H' => ∃ y5, σ = [some (.ref a), y1, y2, y3, some (.str u), y5] ∧ Same (upd H8 v _) H') ⟨_, rfl, Same.refl _⟩ (fun i2 σ H' _ ⟨_, _, sm⟩ => sm.seq (SqL.of upd_same)) ?_ ?_⟩
        · rintro i2 x σ H9 hx ⟨y5, rfl, sm9⟩
          obtain ⟨t, rfl, lt⟩ : ∃ t : Str, x = .str t ∧ t.length ≤ 1000 := by
            have hm := List.mem_of_getElem? hx
            simp only [List.mem_cons, List.not_mem_nil, or_false] at hm
            have h1 := len_upper u
            have h2 := len_lower u
            rcases hm with rfl | rfl | rfl | rfl | rfl | rfl | rfl
            · exact ⟨_, rfl, by omega⟩
            · exact ⟨_, rfl, by rw [len_app]; omega⟩
            · exact ⟨_, rfl, by rw [len_app]; omega⟩
            · exact ⟨_, rfl, by omega⟩
            · exact ⟨_, rfl, by omega⟩
            · exact ⟨_, rfl, by rw [len_app]; omega⟩
            · exact ⟨_, rfl, by rw [len_app]; omega⟩
          refine ⟨_, rfl, _, rfl, .inl ⟨t, rfl, lt, _, rfl, _, rfl, .inl ⟨t, rfl, lt, by show 2 ≤ sizeLine; decide, fun e ne => ⟨_, rfl, t, rfl, lt, fun e2 Ha sma he2 => ?_⟩⟩⟩⟩
          refine ⟨.list [.bool (nameL t.cps.toList), .bool (consL t.cps.toList)], .list [.bool (nameL t.cps.toList), .bool (consL t.cps.toList)], .lst (SqL.of (sma _ _ upd_same)) (.cons (.bl _) (.cons (.bl _) .nil)), .lst (SqL.of he2) (.cons (.bl _) (.cons (.bl _) .nil)), rfl, rfl, _, rfl, ?_⟩
          rw [eqv2]
          refine iteF ⟨_, rfl, ?_⟩
          exact (sm9.trans (same_new ne)).trans sma
        · rintro σ H9 ⟨y5, rfl, sm9⟩
          have sm9' : Same H7 H9 := (sm8.trans (same_new nv)).trans sm9
          -- for value in the six others
          refine ⟨_, rfl, by show 1 ≤ sizeLine; decide, fun l1 nl1 => ⟨_, rfl, by show 1 ≤ sizeLine; decide, fun l2 nl2 => fun l3 nl3 => ⟨_, rfl, upd_same, [(.inr u, .int 1)], rfl, by show 1 ≤ 15; decide, by show 6 ≤ sizeLine; decide, fun l4 nl4 => ?_⟩⟩⟩
          rw [upd_upd] at nl4 ⊢
          have s1 : Same H9 (upd H9 l1 (.lst [.str u])) := same_new nl1
          have s2 := same_new (o := .tup [.str u]) nl2
          have s3 := same_new (o := .dK (mergeK [] [(.inr u, .int 1)])) nl3
          have s4 := same_new (o := .lst [.non, .int 1, .bl true, .ref l1, .ref l2, .ref l3]) nl4
          have sB := ((s1.trans s2).trans s3).trans s4
          have hL1 := s4 _ _ (s3 _ _ (s2 _ _ (upd_same (H := H9) (a := l1) (o := .lst [.str u]))))
          have hL2 := s4 _ _ (s3 _ _ (upd_same (H := upd H9 l1 (.lst [.str u])) (a := l2) (o := .tup [.str u])))
          have hL3 := s4 _ _ (upd_same (H := upd (upd H9 l1 (.lst [.str u])) l2 (.tup [.str u])) (a := l3) (o := .dK (mergeK [] [(.inr u, .int 1)])))
          have hL4 := upd_same (H := upd (upd (upd H9 l1 (.lst [.str u])) l2 (.tup [.str u])) l3 (.dK (mergeK [] [(.inr u, .int 1)]))) (a := l4) (o := .lst [.non, .int 1, .bl true, .ref l1, .ref l2, .ref l3])
          revert sB hL1 hL2 hL3 hL4
          generalize upd (upd (upd (upd H9 l1 (.lst [.str u])) l2 (.tup [.str u])) l3 (.dK (mergeK [] [(.inr u, .int 1)]))) l4 (.lst [.non, .int 1, .bl true, .ref l1, .ref l2, .ref l3]) = B
          intro sB hL1 hL2 hL3 hL4
          refine ⟨l4, rfl, ⟨_, SqL.of hL4⟩, for_list (K := K) (a := l4) (xs := [.non, .int 1, .bl true, .ref l1, .ref l2, .ref l3]) (fun i2 σ H' => ∃ y5, σ = [some (.ref a), y1, y2, y3, some (.str u), y5] ∧ Same B H') ⟨_, rfl, Same.refl _⟩ (fun i2 σ H' _ ⟨_, _, sm⟩ => sm.seq (SqL.of hL4)) ?_ ?_⟩
          · rintro i2 x σ Hc hx ⟨y6, rfl, smc⟩
            have ns : NoStr K Hc x := by
              have hm := List.mem_of_getElem? hx
              simp only [List.mem_cons, List.not_mem_nil, or_false] at hm
              rcases hm with rfl | rfl | rfl | rfl | rfl | rfl
              · exact ⟨_, .base .non, by decide +kernel⟩
              · exact ⟨_, .base (.int 1), by decide +kernel⟩
              · exact ⟨_, .base (.bl true), by decide +kernel⟩
              · exact ⟨_, .base (.lst (smc _ _ hL1)), by decide +kernel⟩
              · exact ⟨_, .base (.tup (smc _ _ hL2)), by decide +kernel⟩
              · exact ⟨_, .base (.dK (smc _ _ hL3)), by decide +kernel⟩
            refine ⟨_, rfl, _, rfl, .inr ⟨ns, _, _, rfl, rfl, _, rfl, ?_⟩⟩
            refine iteF ⟨_, rfl, _, rfl, .inr ⟨ns, _, _, rfl, rfl, _, rfl, ?_⟩⟩
            exact iteF ⟨_, rfl, smc⟩
          · rintro σ Hc ⟨y6, rfl, smc⟩
            exact ⟨_, _, _, _, _, rfl, (sm9'.trans sB).trans smc⟩
      · rintro σ H8 ⟨y1, y2, y3, y4, y5, rfl, sm8⟩
        exact ⟨_, _, _, _, _, rfl, sm7.trans sm8⟩
    · rintro σ H0 ⟨o1, o2, o3, o4, o5, rfl, sm0⟩
      exact q _
end
end K1
namespace K1
open PySem PySem.Spec PyProof.Rows L2
theorem all_mk {l : PySem.W.OpenLaw} {w : World} {K : PySem.W.Frag} {h : Heap} {mg : Str → Option Value} {fa f1 f2 f3 f4 f5 f6 f7 f8 f9 f10 : Addr} (X : K.In h) (G : h.Ns mainGlobals mg) (hfa : mg "law" = some (.ref fa))
    {od1 an1 od2 an2 od3 an3 od4 an4 od5 an5 od6 an6 od7 an7 od8 an8 od9 an9 od10 an10 : Option Addr} {sl1 sl2 sl3 sl4 sl5 sl6 sl7 sl8 sl9 sl10 : Array (Option Value)} {oc1 kV1 dc1 pm1 cd1 ct1 oc2 kV2 dc2 pm2 cd2 ct2 oc3 kV3 dc3 pm3 cd3 ct3 oc4 kV4 dc4 pm4 cd4 ct4 oc5 kV5 dc5 pm5 cd5 ct5 oc6 kV6 dc6 pm6 cd6 ct6 oc7 kV7 dc7 pm7 cd7 ct7 oc8 kV8 dc8 pm8 cd8 ct8 oc9 kV9 dc9 pm9 cd9 ct9 oc10 kV10 dc10 pm10 cd10 ct10 : Value} {tc1 : Tok}
    (a1 : PySem.W.nsIn K mainGlobals "is_name" = some (some (.ref f1))) (l1 : K.lookup f1 = some ⟨oc1, od1, .func (PySem.W.fnOf "is_name" "is_name" (defArgs sName) (defBody sName) (defScope sName) .none kV1 dc1 pm1 an1 cd1 ct1), sl1⟩) (c1 : PySem.W.codeIn K cd1 "is_name" = true) (k1 : PySem.W.keepIn K (.ref f1) = true)
    (a2 : PySem.W.nsIn K mainGlobals "is_constructor" = some (some (.ref f2))) (l2 : K.lookup f2 = some ⟨oc2, od2, .func (PySem.W.fnOf "is_constructor" "is_constructor" (defArgs sCons) (defBody sCons) (defScope sCons) .none kV2 dc2 pm2 an2 cd2 ct2), sl2⟩) (c2 : PySem.W.codeIn K cd2 "is_constructor" = true) (k2 : PySem.W.keepIn K (.ref f2) = true)
    (a3 : PySem.W.nsIn K mainGlobals "_is_word" = some (some (.ref f3))) (l3 : K.lookup f3 = some ⟨oc3, od3, .func (PySem.W.fnOf "_is_word" "_is_word" (defArgs sWord) (defBody sWord) (defScope sWord) .none kV3 dc3 pm3 an3 cd3 ct3), sl3⟩) (c3 : PySem.W.codeIn K cd3 "_is_word" = true) (k3 : PySem.W.keepIn K (.ref f3) = true)
    (a4 : PySem.W.nsIn K mainGlobals "_law_pool" = some (some (.ref f4))) (l4 : K.lookup f4 = some ⟨oc4, od4, .func (PySem.W.fnOf "_law_pool" "_law_pool" (defArgs sPool) (defBody sPool) (defScope sPool) .none kV4 dc4 pm4 an4 cd4 ct4), sl4⟩) (c4 : PySem.W.codeIn K cd4 "_law_pool" = true) (k4 : PySem.W.keepIn K (.ref f4) = true)
    (a5 : PySem.W.nsIn K mainGlobals "_law_draw" = some (some (.ref f5))) (l5 : K.lookup f5 = some ⟨oc5, od5, .func (PySem.W.fnOf "_law_draw" "_law_draw" (defArgs sDraw) (defBody sDraw) (defScope sDraw) .none kV5 dc5 pm5 an5 cd5 ct5), sl5⟩) (c5 : PySem.W.codeIn K cd5 "_law_draw" = true) (k5 : PySem.W.keepIn K (.ref f5) = true)
    (a6 : PySem.W.nsIn K mainGlobals "_law_pick" = some (some (.ref f6))) (l6 : K.lookup f6 = some ⟨oc6, od6, .func (PySem.W.fnOf "_law_pick" "_law_pick" (defArgs sPick) (defBody sPick) (defScope sPick) .none kV6 dc6 pm6 an6 cd6 ct6), sl6⟩) (c6 : PySem.W.codeIn K cd6 "_law_pick" = true) (k6 : PySem.W.keepIn K (.ref f6) = true)
    (a7 : PySem.W.nsIn K mainGlobals "_law_word" = some (some (.ref f7))) (l7 : K.lookup f7 = some ⟨oc7, od7, .func (PySem.W.fnOf "_law_word" "_law_word" (defArgs sWd) (defBody sWd) (defScope sWd) .none kV7 dc7 pm7 an7 cd7 ct7), sl7⟩) (c7 : PySem.W.codeIn K cd7 "_law_word" = true) (k7 : PySem.W.keepIn K (.ref f7) = true)
    (a8 : PySem.W.nsIn K mainGlobals "_law_is_low" = some (some (.ref f8))) (l8 : K.lookup f8 = some ⟨oc8, od8, .func (PySem.W.fnOf "_law_is_low" "_law_is_low" (defArgs sLow) (defBody sLow) (defScope sLow) .none kV8 dc8 pm8 an8 cd8 ct8), sl8⟩) (c8 : PySem.W.codeIn K cd8 "_law_is_low" = true) (k8 : PySem.W.keepIn K (.ref f8) = true)
    (a9 : PySem.W.nsIn K mainGlobals "_law_due" = some (some (.ref f9))) (l9 : K.lookup f9 = some ⟨oc9, od9, .func (PySem.W.fnOf "_law_due" "_law_due" (defArgs sDue) (defBody sDue) (defScope sDue) .none kV9 dc9 pm9 an9 cd9 ct9), sl9⟩) (c9 : PySem.W.codeIn K cd9 "_law_due" = true) (k9 : PySem.W.keepIn K (.ref f9) = true)
    (a10 : PySem.W.nsIn K mainGlobals "law" = some (some (.ref f10))) (l10 : K.lookup f10 = some ⟨oc10, od10, .func (PySem.W.fnOf "law" "law" (defArgs sLaw) (defBody sLaw) (defScope sLaw) .none kV10 dc10 pm10 an10 cd10 ct10), sl10⟩) (c10 : PySem.W.codeIn K cd10 "law" = true) (k10 : PySem.W.keepIn K (.ref f10) = true)
    (z1 : PySem.W.nsIn K mainGlobals "len" = some none)
    (z2 : PySem.W.nsIn K mainGlobals "isinstance" = some none)
    (z3 : PySem.W.nsIn K mainGlobals "str" = some none)
    (z4 : PySem.W.nsIn K mainGlobals "int" = some none)
    (z5 : PySem.W.nsIn K mainGlobals "range" = some none)
    (z6 : PySem.W.nsIn K mainGlobals "max" = some none)
    (z7 : PySem.W.nsIn K mainGlobals "min" = some none)
    (m1 : PySem.W.nsIn K mainGlobals "MOST_LETTERS" = some (some (.int 8 tc1)))
    : ∃ fd : FuncData, (∀ (s : Shared) (v : Value), BindsTo s fd ⟨[v], []⟩ [("_law_script", v)]) ∧ ∀ base : Heap, K.In base → base.Ns mainGlobals mg → FnOk l.prog w K mg base CX0 4 fa fd ["_law_script"] (spLaw K) := by
  have e := hfa.symm.trans (PySem.W.mg_of X G a10)
  cases e
  have F1 := fun_mk (st := sName) l1 c1 k1
  have b1 := F1.binds (ps := ["value"]) fun _ _ _ _ _ _ us hl => match us, hl with | [_], _ => rfl
  have g1 := PySem.W.mg_of X G a1
  have F2 := fun_mk (st := sCons) l2 c2 k2
  have b2 := F2.binds (ps := ["value"]) fun _ _ _ _ _ _ us hl => match us, hl with | [_], _ => rfl
  have g2 := PySem.W.mg_of X G a2
  have F3 := fun_mk (st := sWord) l3 c3 k3
  have b3 := F3.binds (ps := ["value"]) fun _ _ _ _ _ _ us hl => match us, hl with | [_], _ => rfl
  have g3 := PySem.W.mg_of X G a3
  have F4 := fun_mk (st := sPool) l4 c4 k4
  have b4 := F4.binds (ps := ["_law_script", "_law_k"]) fun _ _ _ _ _ _ us hl => match us, hl with | [_, _], _ => rfl
  have g4 := PySem.W.mg_of X G a4
  have F5 := fun_mk (st := sDraw) l5 c5 k5
  have b5 := F5.binds (ps := ["_law_pool_here", "_law_many"]) fun _ _ _ _ _ _ us hl => match us, hl with | [_, _], _ => rfl
  have g5 := PySem.W.mg_of X G a5
  have F6 := fun_mk (st := sPick) l6 c6 k6
  have b6 := F6.binds (ps := ["_law_pool_here", "_law_items"]) fun _ _ _ _ _ _ us hl => match us, hl with | [_, _], _ => rfl
  have g6 := PySem.W.mg_of X G a6
  have F7 := fun_mk (st := sWd) l7 c7 k7
  have b7 := F7.binds (ps := ["_law_pool_here"]) fun _ _ _ _ _ _ us hl => match us, hl with | [_], _ => rfl
  have g7 := PySem.W.mg_of X G a7
  have F8 := fun_mk (st := sLow) l8 c8 k8
  have b8 := F8.binds (ps := ["_law_word_here"]) fun _ _ _ _ _ _ us hl => match us, hl with | [_], _ => rfl
  have g8 := PySem.W.mg_of X G a8
  have F9 := fun_mk (st := sDue) l9 c9 k9
  have b9 := F9.binds (ps := ["_law_word_here"]) fun _ _ _ _ _ _ us hl => match us, hl with | [_], _ => rfl
  have g9 := PySem.W.mg_of X G a9
  have F10 := fun_mk (st := sLaw) l10 c10 k10
  have T : Tx mg := ⟨PySem.W.mg_none_of X G z1, PySem.W.mg_none_of X G z2, PySem.W.mg_none_of X G z3, PySem.W.mg_none_of X G z4, PySem.W.mg_none_of X G z5, PySem.W.mg_none_of X G z6, PySem.W.mg_none_of X G z7, ⟨_, PySem.W.mg_of X G m1⟩⟩
  refine ⟨PySem.W.fnOf "law" "law" (defArgs sLaw) (defBody sLaw) (defScope sLaw) .none kV10 dc10 pm10 an10 cd10 ct10, fun s v => .of_eq rfl, fun base _ _ => ?_⟩
  have G3 : FnOk l.prog w K mg base CX0 1 f3 _ ["value"] (spWord K) := ok_word F3 T
  have G5 : FnOk l.prog w K mg base CX0 1 f5 _ ["_law_pool_here", "_law_many"] spDraw := ok_draw F5 T
  have G6 := ok_pick (P := l.prog) (w := w) (base := base) F6 T g5 k5 b5 G5
  have G8 : FnOk l.prog w K mg base CX0 1 f8 _ ["_law_word_here"] spLow := ok_low F8 T
  exact ok_law F10 T g1 k1 b1 (ok_name F1 g3 k3 b3 G3) g2 k2 b2 (ok_cons F2 g3 k3 b3 G3) g4 k4 b4 (ok_pool F4 T) g5 k5 b5 G5 g7 k7 b7 (ok_wd F7 T g5 k5 b5 G5 g6 k6 b6 G6) g9 k9 b9 (ok_due F9 T g8 k8 b8 G8)
end K1
open PySem PySem.W PyProof.Rows
set_option maxRecDepth 100000 in
set_option maxHeartbeats 0 in
theorem PySem.Challenge.cw_soleinstances_k01_names_holds : PySem.Challenge.rw_soleinstances_k01_names.Holds := by
  w_on; o_law; k_head; (case hw => w_witness2)
  k_fill
  refine L2.walk_of (l := PySem.Challenge.rw_soleinstances_k01_names) (n := 63) (k := 4) (x := "_law_script") (CX := fun _ => L2.CX0) (sp := fun w => K1.spLaw _) rfl (by decide) rfl ⟨rfl, by decide, by decide⟩ (fun w h Y => PySem.W.kIn_of Y) ?F (fun _ _ a ns hl _ hS => ⟨a, ns, rfl, hS, hl, fun _ => rfl⟩) (fun _ _ _ _ _ h => h)
  case F =>
    intro w mg fa h KX G hmg
    refine' K1.all_mk KX G hmg ?a1 ?l1 ?c1 ?k1 ?a2 ?l2 ?c2 ?k2 ?a3 ?l3 ?c3 ?k3 ?a4 ?l4 ?c4 ?k4 ?a5 ?l5 ?c5 ?k5 ?a6 ?l6 ?c6 ?k6 ?a7 ?l7 ?c7 ?k7 ?a8 ?l8 ?c8 ?k8 ?a9 ?l9 ?c9 ?k9 ?a10 ?l10 ?c10 ?k10 ?z1 ?z2 ?z3 ?z4 ?z5 ?z6 ?z7 ?m1
    (case a1 => k_is)
    (case l1 => k_is)
    (case c1 => k_is)
    (case k1 => k_is)
    (case a2 => k_is)
    (case l2 => k_is)
    (case c2 => k_is)
    (case k2 => k_is)
    (case a3 => k_is)
    (case l3 => k_is)
    (case c3 => k_is)
    (case k3 => k_is)
    (case a4 => k_is)
    (case l4 => k_is)
    (case c4 => k_is)
    (case k4 => k_is)
    (case a5 => k_is)
    (case l5 => k_is)
    (case c5 => k_is)
    (case k5 => k_is)
    (case a6 => k_is)
    (case l6 => k_is)
    (case c6 => k_is)
    (case k6 => k_is)
    (case a7 => k_is)
    (case l7 => k_is)
    (case c7 => k_is)
    (case k7 => k_is)
    (case a8 => k_is)
    (case l8 => k_is)
    (case c8 => k_is)
    (case k8 => k_is)
    (case a9 => k_is)
    (case l9 => k_is)
    (case c9 => k_is)
    (case k9 => k_is)
    (case a10 => k_is)
    (case l10 => k_is)
    (case c10 => k_is)
    (case k10 => k_is)
    (case z1 => k_is)
    (case z2 => k_is)
    (case z3 => k_is)
    (case z4 => k_is)
    (case z5 => k_is)
    (case z6 => k_is)
    (case z7 => k_is)
    (case m1 => k_is)
#print axioms PySem.Challenge.cw_soleinstances_k01_names_holds
