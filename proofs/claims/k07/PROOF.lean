import PyProof.Rows.All
import Wide.All
import OpenK.AllK
import Wide.FinOn
import HandS.ForMost
import HandS.ForExc
import HandS.Evl
import HandS.Wide
import HandS.Gcd
import HandS.IsInst
import HandS.ExcInit
import HandS.ExcField
import HandS.CallSlots
import HandS.Defaults
import HandS.MakeKw
import HandS.OwnEq
import HandS.ExcBuiltin
import HandS.RaiseOp
import HandS.TryOnly
import PyProof.Rows.Range3
import HandS.ExcValue
import KE.KExcIs
import HandS.MakeKwOnly
import HandS.StrMore
import HandS.FStr
import HandS.Style
import HandS.ClsMeth
import HandS.Small
import KE.IntTextText
import KE.OsScanText
import KE.KCallOwn
import HandS.Walk
import PySem.Challenge.RW_anytune_k07_texts_of_moments
set_option Elab.async false
set_option linter.all false
set_option maxRecDepth 100000
set_option maxHeartbeats 2000000
namespace Mo
open PySem PySem.W PySem.Calls PyProof.Rows
section
variable {prog : Program} {w : World} {M : Model} {A : Around} {E : Value → Shared → Prop} {s : Shared} {K : Frag} {x C L f : Addr} {h₀ : Heap} {m : Str → Option Value} {ox : Obj} {od : Option Obj} {f₁ : Addr}

theorem intBin_no {nm : String} {g : Int → Int → Sem PySem.Fin} {refl : Bool} {i : Int} {t : Tok} {Q : PySem.Fin → Shared → Prop} (hx : s.heap.get? x = some ox) (hd : ox.data = .plain)
    (h : Q (.done (.ret .notImplemented)) s) : wpAny M A (Builtin.Int.intBinary nm g refl ⟨[.int i t, .ref x], []⟩) Q E s := by
  obtain ⟨hp, g', d, tk, os⟩ := s
  unfold Builtin.Int.intBinary
  wp_walk using wpAny_loadPart' hx
  rw [hd]
  wp_walk
  exact h

/-- an int's built-in that hands an own instance back -/
def Declines (B : Builtin) : Prop := ∀ (M : Model) (A : Around) (E : Value → Shared → Prop) (s : Shared) (i : Int) (t : Tok) (x : Addr) (ox : Obj) (Q : PySem.Fin → Shared → Prop), s.heap.get? x = some ox → ox.data = .plain → Q (.done (.ret .notImplemented)) s → wpAny M A (B ⟨[.int i t, .ref x], []⟩) Q E s
theorem dec_bin {nm : String} {g : Int → Int → Sem PySem.Fin} {refl : Bool} : Declines (Builtin.Int.intBinary nm g refl) := fun _ _ _ _ _ _ _ _ _ hx hd h => intBin_no hx hd h
theorem call_int_no {id : String} {B : Builtin} {name : Str} {i : Int} {t : Tok} {Q : Value → Shared → Prop} (slot : Slot "int" name id) (entry : entryFor table id = some B) (args : argsOk id ⟨[.int i t, .ref x], []⟩)
    (hB : Declines B) (hx : s.heap.get? x = some ox) (hd : ox.data = .plain) (h : Q .notImplemented s) :
    wpAny (model prog w) A (call (.builtin id) [.int i t, .ref x]) Q E s := by
  exact wpAny_call (codeAny_call_builtin slot.plain entry (slot.check _ _ _ _ _ _ _ _ (typeIs_int s i t) args (hB _ _ _ _ _ _ _ _ _ hx hd h)))

/-- k op a, a an own instance whose class has the reflected operator -/
theorem binR_K {op : Operator} {i : Int} {t : Tok} {id : String} {B : Builtin} {Q : Value → Shared → Prop} (F : Fr h₀ L s.heap m) (X₀ : K.In h₀) (I : InstAt s.heap x ox C od) (hpl : ox.data = .plain) (hc : selfFirst K C = true)
    (hs : findIn K (.ref C) (PySem.dunder op.info.2) = some (some (.ref f₁))) (hs1 : isFn K (.ref f₁) = true)
    (hr : findIn K (.ref C) (dunderR op.info.2) = some (some (.ref f))) (hf : isFn K (.ref f) = true) (hsub : subIn K (.ref C) (.type "int") = some false)
    (slot : Slot "int" (PySem.dunder op.info.2) id) (fills : fillsNumberSlot (.type "int") op.info.2 = pure true) (entry : entryFor table id = some B) (args : argsOk id ⟨[.int i t, .ref x], []⟩)
    (hB : Declines B)
    (h : wpAny (model prog w) A (call (.ref f) [.ref x, .int i t]) (W.CmpBack Q) E s) : wpAny (model prog w) A (binaryOp op (.int i t) (.ref x)) Q E s := by
  have X := X₀.keeps F.keep
  obtain ⟨cd, rest, hcd, hm⟩ := ksp_first hc
  rcases hi : op.info with ⟨sym, nm'⟩
  rw [hi] at hs hr slot fills
  dsimp only at hs hr slot fills
  have two := ksp_try X I hr hf h
  have one : wpAny (model prog w) A (tryMethod (.int i t) (PySem.dunder nm') (.ref x)) (fun r s' => r = none ∧ s' = s) E s :=
    wpAny_tryMethod_declines (typeIs_int s i t) slot (call_int_no slot entry args hB I.1 hpl ⟨rfl, rfl, rfl⟩)
  obtain ⟨hh, g', d, tk, os⟩ := s
  have L1 : Looks (model prog w) hh (typeOf (.int i t)) (.type "int") := Looks.of_pure rfl
  have L2 : Looks (model prog w) hh (typeOf (.ref x)) (.ref C) := I.type
  have L3 : Looks (model prog w) hh (fillsNumberSlot (.type "int") nm') true := Looks.of_pure fills
  have L4 : Looks (model prog w) hh (fillsNumberSlot (.ref C) nm') true := fills_K X hcd hm hs
  have L5 : Looks (model prog w) hh (isSubtype (.ref C) (.type "int")) false := looks_subIn X hsub
  have L6 : Looks (model prog w) hh (numberSlotInPython (.type "int") nm') false := Looks.of_pure rfl
  have hne : (Value.type "int" == Value.ref C) = false := Bool.eq_false_iff.mpr fun q => by cases beq_iff_eq.mp q
  simp only [binaryOp, hi]
  refine wpAny_holding (wpAny_bind ?_)
  unfold binaryOp1
  refine wpAny_bind (L1.at (wpAny_bind (L2.at (wpAny_bind (L3.at ?_)))))
  simp only [hne, Bool.false_eq_true, if_false]
  ksp_lk
  refine wpAny_mono one (fun r s' hr' => ?_) fun _ _ e => e
  obtain ⟨rfl, rfl⟩ := hr'
  ksp_lk
  refine wpAny_mono two (fun r s' hr' => ?_) fun _ _ e => e
  obtain ⟨v, rfl, hq⟩ := hr'
  ksp_lk
  exact hq

/-- int.__lt__ and its like on an own instance -/
theorem tryCmp_int_no {id : String} {B : Builtin} {name : Str} {i : Int} {t : Tok} (slot : Slot "int" name id) (entry : entryFor table id = some B) (args : argsOk id ⟨[.int i t, .ref x], []⟩)
    (hB : Declines B) (hx : s.heap.get? x = some ox) (hd : ox.data = .plain) :
    wpAny (model prog w) A (tryCompare (.int i t) name (.ref x)) (fun r s' => r = none ∧ s' = s) E s := by
  unfold tryCompare
  refine wpAny_bind (wpAny_callSpecialIfBound?_slot (typeIs_int s i t) slot (call_int_no slot entry args hB hx hd ?_))
  exact wpAny_pure ⟨rfl, rfl⟩
theorem tryCmp_K {name : Str} {b : Value} {Q : Value → Shared → Prop} (X : K.In s.heap) (I : InstAt s.heap x ox C od) (hs : findIn K (.ref C) name = some (some (.ref f))) (hf : isFn K (.ref f) = true)
    (h : wpAny M A (call (.ref f) [.ref x, b]) (W.CmpBack Q) E s) : wpAny M A (tryCompare (.ref x) name b) (fun r s' => ∃ v, r = some v ∧ Q v s') E s := by
  unfold tryCompare
  refine wpAny_bind (ifBound_K X I hs hf (wpAny_mono h (fun v s' hv => ?_) fun _ _ e => e))
  cases v <;> first | exact hv.elim | exact wpAny_pure ⟨_, rfl, hv⟩
/-- x != b by x.__eq__(b): object.__ne__ -/
theorem tryNe_K {b : Value} {Q : Value → Shared → Prop} (hu : A.units + 1 < cLine) (X : K.In s.heap) (I : InstAt s.heap x ox C od) (hn : findIn K (.ref C) "__ne__" = some (some (.builtin "object.__ne__"))) (ho : subIn K (.ref C) (.type "object") = some true)
    (hs : findIn K (.ref C) "__eq__" = some (some (.ref f))) (hf : isFn K (.ref f) = true)
    (h : wpAny (model prog w) A.in1 (call (.ref f) [.ref x, b]) (fun v s' => ∃ k, v = .bool k ∧ Q (.bool (!k)) s') E s) :
    wpAny (model prog w) A (tryCompare (.ref x) "__ne__" b) (fun r s' => ∃ v, r = some v ∧ Q v s') E s := by
  have FB := F.cmp_object
  have fin : wpAny (model prog w) A (call (.builtin "object.__ne__") [.ref x, b]) (fun v s' => ∃ k, v = .bool k ∧ Q v s') E s := by
    obtain ⟨hp, g', d, tk, os⟩ := s
    have sub : Looks (model prog w) hp (isInstance (.ref x) (.type "object")) true := I.type.andThen (looks_subIn X ho)
    refine wpAny_call (codeAny_call_builtin FB.ne.plain F.cmpEntry_ne (@W.check_slot (model prog w) _ _ ⟨hp, g', d, tk, os⟩ "object.__ne__" "object" "__ne__" (.ref x) [b] [] _ F.cmpKind_ne F.cmpSplit_ne sub (F.cmpArgs_ne _ _) ?_))
    unfold Builtin.«object.__ne__»
    repeat (first
      | with_reducible refine wpAny_cRoomFor hu ?_
      | (refine wpAny_bind (m := callSpecialIfBound? (.ref x) (Str.ofString "__eq__") [b])
          (ifBound_K X I hs hf (wpAny_mono h (fun r s' hr => by
            obtain ⟨k, rfl, hq⟩ := hr
            repeat (first | exact ⟨_, rfl, hq⟩ | exact wpAny_pure ⟨_, rfl, hq⟩ | (refine wpAny_bind (m := truthy (.bool _)) (wpAny_truthy_bool ?_)) | wp_step)) fun _ _ e => e)))
      | wp_step)
  unfold tryCompare
  refine wpAny_bind ?_
  simp only [callSpecialIfBound?, bindSpecialIfBound?]
  refine wpAny_holding (wpAny_bind (wpAny_bind (wpAny_bind (I.type.here ((looks_findIn X hn).here ?_)))))
  simp only [FB.ne.bind]
  refine wpAny_bind (wpAny_askSetting (wpAny_ite ?_))
  have fin2 : wpAny (model prog w) A (call (.builtin "object.__ne__") ([.ref x] ++ [b]) >>= fun v => pure (some v)) (fun r s' => wpAny (model prog w) A (match r with | some .notImplemented | none => pure none | some v => pure (some v)) (fun r s' => ∃ v, r = some v ∧ Q v s') E s') E s :=
    wpAny_bind (wpAny_mono fin (fun v s' ⟨k, e, h'⟩ => by subst e; exact wpAny_pure (wpAny_pure ⟨_, rfl, h'⟩)) fun _ _ h' => h')
  split
  · exact wpAny_bind (wpAny_pure (wpAny_pure fin2))
  · exact wpAny_tryCatch (wpAny_bind (wpAny_pure (wpAny_pure fin2)))

/-- the rest of a comparison, x the own instance on the left -/
theorem cmpL_K {op : CmpOp} {b tb : Value} {Q : Value → Shared → Prop} (hu : A.units < cLine) (X : K.In s.heap) (I : InstAt s.heap x ox C od) (hb : Looks (model prog w) s.heap (typeOf b) tb) (hn : notFirst K C tb = true)
    (one : wpAny (model prog w) A (tryCompare (.ref x) (cmpInfo op).2.1 b) (fun r s' => ∃ v, r = some v ∧ Q v s') E s) : wpAny (model prog w) A (richCompare op (.ref x) b) Q E s := by
  unfold richCompare
  simp only [oneThing_ref]
  refine wpAny_holding (wpAny_bind (wpAny_cRoomFor hu ?_))
  refine wpAny_bind (I.type.here (wpAny_bind (hb.here ?_)))
  split
  · rename_i q
    have e : subIn K tb (.ref C) = some false := by
      rcases Bool.or_eq_true_iff.mp hn with e | e
      · rw [beq_iff_eq.mp e] at q; simp at q
      · exact beq_iff_eq.mp e
    refine wpAny_bind ((looks_subIn X e).here ?_)
    simp only [Bool.false_eq_true, if_false]
    refine wpAny_bind (wpAny_mono one (fun r s' z => ?_) fun _ _ e => e)
    obtain ⟨v, rfl, hq⟩ := z
    exact wpAny_pure hq
  · refine wpAny_bind (wpAny_pure ?_)
    simp only [Bool.false_eq_true, if_false]
    refine wpAny_bind (wpAny_mono one (fun r s' z => ?_) fun _ _ e => e)
    obtain ⟨v, rfl, hq⟩ := z
    exact wpAny_pure hq
/-- an int on the left -/
theorem cmpR_K {op : CmpOp} {i : Int} {t : Tok} {id : String} {B : Builtin} {Q : Value → Shared → Prop} (hu : A.units < cLine) (X : K.In s.heap) (I : InstAt s.heap x ox C od) (hpl : ox.data = .plain) (hsub : subIn K (.ref C) (.type "int") = some false)
    (slot : Slot "int" (cmpInfo op).2.1 id) (entry : entryFor table id = some B) (args : argsOk id ⟨[.int i t, .ref x], []⟩)
    (hB : Declines B)
    (two : wpAny (model prog w) A (tryCompare (.ref x) (cmpInfo op).2.2 (.int i t)) (fun r s' => ∃ v, r = some v ∧ Q v s') E s) : wpAny (model prog w) A (richCompare op (.int i t) (.ref x)) Q E s := by
  have one := tryCmp_int_no (prog := prog) (w := w) (A := A) (E := E) slot entry args hB I.1 hpl
  have o1 : oneThing? op (.int i t) (.ref x) = none := (typeIs_int s i t).oneThing_none op _
  unfold richCompare
  simp only [o1]
  refine wpAny_holding (wpAny_bind (wpAny_cRoomFor hu ?_))
  refine wpAny_bind (wpAny_typeOf (typeIs_int s i t) (wpAny_bind (I.type.here ?_)))
  have hne : (Value.type "int" != Value.ref C) = true := by
    rw [bne_iff_ne]
    intro q
    cases q
  rw [if_pos hne]
  refine wpAny_bind ((looks_subIn X hsub).here ?_)
  simp only [Bool.false_eq_true, if_false]
  refine wpAny_bind (wpAny_mono one (fun r s' z => ?_) fun _ _ e => e)
  obtain ⟨rfl, rfl⟩ := z
  dsimp only
  rw [if_pos (show (!false) = true from rfl)]
  refine wpAny_bind (wpAny_mono two (fun r s' z => ?_) fun _ _ e => e)
  obtain ⟨v, rfl, hq⟩ := z
  exact wpAny_pure hq
end
end Mo

namespace Mo
open PySem L2
/-- what the written part says of a class with operators of its own -/
structure Opc (K : PySem.W.Frag) (C : Addr) : Prop where
  sf : PySem.W.selfFirst K C = true
  nInt : PySem.W.subIn K (.ref C) (.type "int") = some false
  obj : PySem.W.subIn K (.ref C) (.type "object") = some true
theorem tyNot {K : PySem.W.Frag} {C : Addr} {T : String} (h : (PySem.fastBuiltinMro T).any (fun l => l.all fun v => match v with | .type _ => true | _ => false) = true) : PySem.W.subIn K (.type T) (.ref C) = some false := by
  show (PySem.fastBuiltinMro T).map (·.contains (.ref C)) = some false
  cases e : PySem.fastBuiltinMro T with
  | none => rw [e] at h; cases h
  | some l =>
    rw [e] at h
    show some (l.contains (.ref C)) = some false
    have h' : (l.all fun v => match v with | .type _ => true | _ => false) = true := h
    congr 1
    rw [List.contains_eq_any_beq]
    rw [List.any_eq_false]
    intro v hv q
    have z := List.all_eq_true.mp h' v hv
    have z2 := beq_iff_eq.mp q
    subst z2
    cases z
theorem notFirstT {K : PySem.W.Frag} {C : Addr} {T : String} (h : PySem.W.subIn K (.type T) (.ref C) = some false) : PySem.W.notFirst K C (.type T) = true := by
  unfold PySem.W.notFirst
  rw [h]
  simp
theorem notFirstC {K : PySem.W.Frag} {C : Addr} : PySem.W.notFirst K C (.ref C) = true := by
  unfold PySem.W.notFirst
  simp
theorem nf_int {K : PySem.W.Frag} {C : Addr} : PySem.W.subIn K (.type "int") (.ref C) = some false := tyNot (by decide +kernel)
theorem nf_str {K : PySem.W.Frag} {C : Addr} : PySem.W.subIn K (.type "str") (.ref C) = some false := tyNot (by decide +kernel)
theorem nf_none {K : PySem.W.Frag} {C : Addr} : PySem.W.subIn K (.type "NoneType") (.ref C) = some false := tyNot (by decide +kernel)
theorem nf_list {K : PySem.W.Frag} {C : Addr} : PySem.W.subIn K (.type "list") (.ref C) = some false := tyNot (by decide +kernel)
theorem nf_tuple {K : PySem.W.Frag} {C : Addr} : PySem.W.subIn K (.type "tuple") (.ref C) = some false := tyNot (by decide +kernel)

section
variable {X : Cx} {CX : CXT} {n k : Nat} {f f₁ C : Addr} {fd : FuncData} {ps : List Str} {sp : Sp} {E : XK}
theorem cmpBack_of {pins : List (Addr × Obj)} {σ : St} {Q : VK} {v : Value} {s' : Shared} (h : EP X pins σ Q v s') : PySem.W.CmpBack (EP X pins σ Q) v s' := by
  obtain ⟨x, H', I, r, q⟩ := id h
  cases v <;> first | exact h | skip
  cases x <;> first | (cases r; done) | (obtain ⟨_, r⟩ := r; cases r; done) | (exact absurd r (by intro z; cases z))
theorem run_op (F : FnOk X.prog X.w X.K X.mg X.base CX n f fd ps sp) (hr : Room n X.A) (hb : Binds X.K fd ps []) (hx : Passes CX X E) {pins : List (Addr × Obj)} {s : Shared} {σ : St} {H : Hp} {xs : List V} {us : List Value} {Q : VK}
    (I : Inv X pins σ H s) (r : Vals xs us) (h : sp xs H Q E) : wpAny (model X.prog X.w) X.A (call (.ref f) us) (PySem.W.CmpBack (EP X pins σ Q)) X.xe s :=
  wpAny_mono (run_fn (dvs := []) (ds := []) F hr hb .nil hx I r (by rw [List.append_nil]; exact h)) (fun v s' z => cmpBack_of z) fun _ _ e => e
theorem v2rr (a b : Addr) : Vals [V.ref a, V.ref b] [Value.ref a, Value.ref b] := .cons rfl (.cons rfl .nil)
theorem v2ri (a : Addr) (i : Int) (t : Tok) : Vals [V.ref a, V.int i] [Value.ref a, Value.int i t] := .cons rfl (.cons ⟨_, rfl⟩ .nil)
theorem v2ry (a : Addr) {y : V} {u : Value} (r : RelV y u) : Vals [V.ref a, y] [Value.ref a, u] := .cons rfl (.cons r .nil)
/-- a two-place method of the class -/
structure Op2 (K : PySem.W.Frag) (C : Addr) (nm : String) (f : Addr) : Prop where
  at_ : PySem.W.findIn K (.ref C) (PySem.dunder nm) = some (some (.ref f))
  fn : PySem.W.isFn K (.ref f) = true
  rr : ∃ g : Addr, PySem.W.findIn K (.ref C) (PySem.dunderR nm) = some none ∨ PySem.W.findIn K (.ref C) (PySem.dunderR nm) = some (some (.ref g))
structure OpR2 (K : PySem.W.Frag) (C : Addr) (nm : String) (f : Addr) : Prop where
  at_ : PySem.W.findIn K (.ref C) (PySem.dunderR nm) = some (some (.ref f))
  fn : PySem.W.isFn K (.ref f) = true
  ll : ∃ g : Addr, PySem.W.findIn K (.ref C) (PySem.dunder nm) = some (some (.ref g)) ∧ PySem.W.isFn K (.ref g) = true
def IsC (C : Addr) (x : V) (H : Hp) : Prop := ∃ a dx fs, x = .ref a ∧ H a = some (.ins C dx fs)
def rOwn (C : Addr) (sp : Sp) (E : XK) : R2 := fun x y H Q => IsC C x H ∧ (IsC C y H ∨ ∃ i, y = .int i) ∧ sp [x, y] H Q E
def rOwnR (C : Addr) (sp : Sp) (E : XK) : R2 := fun x y H Q => (∃ i, x = .int i) ∧ IsC C y H ∧ sp [y, x] H Q E
/-- int's own facts of an operator -/
structure IntOp (op : Operator) : Prop where
  fo : ∃ fo ro, (∀ K : PySem.W.Frag, PySem.W.findIn K (.type "int") (PySem.dunder op.info.2) = some fo) ∧ (∀ K : PySem.W.Frag, PySem.W.findIn K (.type "int") (PySem.dunderR op.info.2) = some ro)
theorem op_own {op : Operator} (T : Opc X.K C) (IO : IntOp op) (O : Op2 X.K C op.info.2 f) (F : FnOk X.prog X.w X.K X.mg X.base CX n f fd ps sp) (hr : Room n X.A) (hb : Binds X.K fd ps []) (hx : Passes CX X E) : OpR X (binaryOp op) (rOwn C sp E) := by
  intro pins s σ H x y v u Q I rx ry h
  obtain ⟨⟨a, dx, fs, rfl, ha⟩, hy, q⟩ := h
  cases rx
  obtain ⟨mA, J, _⟩ := ins_get I.hok ha
  obtain ⟨od, J, _⟩ := J.look
  obtain ⟨m, hF⟩ := I.fr
  rcases hy with ⟨b, dy, gs, rfl, hb'⟩ | ⟨i, rfl⟩
  · cases ry
    obtain ⟨mB, J', _⟩ := ins_get I.hok hb'
    obtain ⟨od', J', _⟩ := J'.look
    exact PySem.W.binop_K hF I.ok.mod.kin J J'.type T.sf O.at_ O.fn (run_op F hr hb hx I (v2rr _ _) q)
  · obtain ⟨t, rfl⟩ := ry
    obtain ⟨fo, ro, e1, e2⟩ := IO.fo
    obtain ⟨g, e3⟩ := O.rr
    obtain ⟨rc, e4, e5⟩ : ∃ rc, PySem.W.findIn X.K (.ref C) (PySem.dunderR op.info.2) = some rc ∧ (rc = none ∨ ∃ g : Addr, rc = some (.ref g)) := by
      rcases e3 with e3 | e3
      · exact ⟨_, e3, .inl rfl⟩
      · exact ⟨_, e3, .inr ⟨g, rfl⟩⟩
    exact PySem.W.ksp_binT (T := "int") hF I.ok.mod.kin J rfl T.sf O.at_ O.fn e4 e5 (e1 _) (e2 _) nf_int (run_op F hr hb hx I (v2ri _ _ _) q)
/-- int op own -/
structure IntOpR (op : Operator) : Prop where
  sl : ∃ id B, PySem.Slot "int" (PySem.dunder op.info.2) id ∧ entryFor table id = some B ∧ (∀ i t x, argsOk id ⟨[.int i t, .ref x], []⟩) ∧ Declines B
  fills : fillsNumberSlot (.type "int") op.info.2 = pure true
theorem op_ownR {op : Operator} (T : Opc X.K C) (IO : IntOpR op) (O : OpR2 X.K C op.info.2 f) (F : FnOk X.prog X.w X.K X.mg X.base CX n f fd ps sp) (hr : Room n X.A) (hb : Binds X.K fd ps []) (hx : Passes CX X E) : OpR X (binaryOp op) (rOwnR C sp E) := by
  intro pins s σ H x y v u Q I rx ry h
  obtain ⟨⟨i, rfl⟩, ⟨a, dx, fs, rfl, ha⟩, q⟩ := h
  cases ry
  obtain ⟨t, rfl⟩ := rx
  obtain ⟨mA, J, _⟩ := ins_get I.hok ha
  obtain ⟨od, J, _⟩ := J.look
  obtain ⟨m, hF⟩ := I.fr
  obtain ⟨g, g1, g2⟩ := O.ll
  obtain ⟨id, B, s1, s2, s3, s4⟩ := IO.sl
  exact binR_K hF I.ok.mod.kin J rfl T.sf g1 g2 O.at_ O.fn T.nInt s1 IO.fills s2 (s3 _ _ _) s4 (run_op F hr hb hx I (v2ri _ _ _) q)

/-! ### comparisons -/
/-- the types of what an own instance is compared with -/
inductive Par (C : Addr) (H : Hp) : V → Prop where
  | int (i : Int) : Par C H (.int i)
  | str (z : Str) : Par C H (.str z)
  | non : Par C H .non
  | lst {a : Addr} {xs : List V} (e : H a = some (.lst xs)) : Par C H (.ref a)
  | tup {a : Addr} {xs : List V} (e : H a = some (.tup xs)) : Par C H (.ref a)
  | ins {a dx : Addr} {fs : List (Str × V)} (e : H a = some (.ins C dx fs)) : Par C H (.ref a)
theorem Par.look {H : Hp} {y : V} {u : Value} {pins : List (Addr × Obj)} {s : Shared} {σ : St} (I : Inv X pins σ H s) (p : Par C H y) (ry : RelV y u) : ∃ tb, PySem.W.Looks (model X.prog X.w) s.heap (typeOf u) tb ∧ PySem.W.notFirst X.K C tb = true := by
  cases p with
  | int i => obtain ⟨t, rfl⟩ := ry; exact ⟨_, .of_pure rfl, notFirstT nf_int⟩
  | str z => obtain ⟨t, rfl⟩ := ry; exact ⟨_, .of_pure rfl, notFirstT nf_str⟩
  | non => cases ry; exact ⟨_, .of_pure rfl, notFirstT nf_none⟩
  | @lst a xs e =>
    cases ry
    obtain ⟨_, its, n, _, e⟩ := (show ObjOk X.prog X.w H s.heap a (.lst xs) from I.hok a _ e)
    exact ⟨_, fun A Q E s k q => wpAny_typeOf_ref (k _ _ e) q, notFirstT nf_list⟩
  | @tup a xs e =>
    cases ry
    obtain ⟨_, its, _, o, e, hc, _⟩ := (show ObjOk X.prog X.w H s.heap a (.tup xs) from I.hok a _ e)
    exact ⟨.type "tuple", fun A Q E s k q => wpAny_typeOf_ref (k _ _ e) (by rw [hc]; exact q), notFirstT nf_tuple⟩
  | ins e =>
    cases ry
    obtain ⟨mB, J', _⟩ := ins_get I.hok e
    obtain ⟨od', J', _⟩ := J'.look
    exact ⟨_, J'.type, notFirstC⟩
/-- a op b by the class's own method -/
def rCmp (C : Addr) (sp : Sp) (E : XK) : R2 := fun x y H Q => IsC C x H ∧ Par C H y ∧ sp [x, y] H Q E
theorem op_cmp {op : CmpOp} (hop : ∀ v u : Value, compareOp op v u = richCompare op v u) (hs : PySem.W.findIn X.K (.ref C) (cmpInfo op).2.1 = some (some (.ref f))) (hf : PySem.W.isFn X.K (.ref f) = true)
    (F : FnOk X.prog X.w X.K X.mg X.base CX n f fd ps sp) (hr : Room n X.A) (hb : Binds X.K fd ps []) (hx : Passes CX X E) : OpR X (compareOp op) (rCmp C sp E) := by
  intro pins s σ H x y v u Q I rx ry h
  obtain ⟨⟨a, dx, fs, rfl, ha⟩, p, q⟩ := h
  obtain ⟨tb, lb, nf⟩ := p.look I ry
  cases rx
  obtain ⟨mA, J, _⟩ := ins_get I.hok ha
  obtain ⟨od, J, _⟩ := J.look
  rw [hop]
  exact cmpL_K hr.units0 I.kIn J lb nf (tryCmp_K I.kIn J hs hf (run_op F hr hb hx I (v2ry _ ry) q))
/-- k op a, by a's reflected method -/
def rCmpR (C : Addr) (sp : Sp) (E : XK) : R2 := fun x y H Q => (∃ i, x = .int i) ∧ IsC C y H ∧ sp [y, x] H Q E
structure IntCmp (op : CmpOp) : Prop where
  eq : ∀ v u : Value, compareOp op v u = richCompare op v u
  sl : ∃ id B, PySem.Slot "int" (cmpInfo op).2.1 id ∧ entryFor table id = some B ∧ (∀ i t x, argsOk id ⟨[.int i t, .ref x], []⟩) ∧ Declines B
theorem op_cmpR {op : CmpOp} (T : Opc X.K C) (IC : IntCmp op) (hs : PySem.W.findIn X.K (.ref C) (cmpInfo op).2.2 = some (some (.ref f))) (hf : PySem.W.isFn X.K (.ref f) = true)
    (F : FnOk X.prog X.w X.K X.mg X.base CX n f fd ps sp) (hr : Room n X.A) (hb : Binds X.K fd ps []) (hx : Passes CX X E) : OpR X (compareOp op) (rCmpR C sp E) := by
  intro pins s σ H x y v u Q I rx ry h
  obtain ⟨⟨i, rfl⟩, ⟨a, dx, fs, rfl, ha⟩, q⟩ := h
  cases ry
  obtain ⟨t, rfl⟩ := rx
  obtain ⟨mA, J, _⟩ := ins_get I.hok ha
  obtain ⟨od, J, _⟩ := J.look
  obtain ⟨id, B, s1, s2, s3, s4⟩ := IC.sl
  rw [IC.eq]
  exact cmpR_K hr.units0 I.kIn J rfl T.nInt s1 s2 (s3 _ _ _) s4 (tryCmp_K I.kIn J hs hf (run_op F hr hb hx I (v2ri _ _ _) q))
/-- the own == run a level deeper -/
theorem run_in1 (F : FnOk X.prog X.w X.K X.mg X.base CX n f fd ps sp) (hr : Room (n + 1) X.A) (hb : Binds X.K fd ps []) (hx : Passes CX X E) {pins : List (Addr × Obj)} {s : Shared} {σ : St} {H : Hp} {xs : List V} {us : List Value} {Q : VK}
    (I : Inv X pins σ H s) (r : Vals xs us) (h : sp xs H Q E) : wpAny (model X.prog X.w) X.A.in1 (call (.ref f) us) (EP X pins σ Q) X.xe s := by
  have e0 : Env0 X.prog X.w X.K X.mg X.base X.A.in1 X.stack s H := I.env0.in1
  have hl : us.length = ps.length := by rw [← r.length]; exact F.len _ _ _ _ h
  refine wpAny_call (codeAny_mono (F.run X.A.in1 X.stack s H ⟨us, []⟩ us xs _ E hr.in1 e0 (by
    have := hb s us I.kIn (by simpa using hl)
    simpa using this) r h) fun r s' hq => ?_)
  cases r with
  | error e => exact hx pins σ H s e s' I hq
  | ok fl =>
    cases fl with
    | ret w => exact I.after hq
    | next => exact False.elim hq
    | brk => exact False.elim hq
    | cont => exact False.elim hq
def rNeO (C : Addr) (sp : Sp) (E : XK) : R2 := fun x y H Q => IsC C x H ∧ Par C H y ∧ sp [x, y] H (fun v H' => ∃ k, v = .bl k ∧ Q (.bl (!k)) H') E
theorem ne_back {pins : List (Addr × Obj)} {σ : St} {Q : VK} {v : Value} {s' : Shared} (h : EP X pins σ (fun v H' => ∃ k, v = .bl k ∧ Q (.bl (!k)) H') v s') : ∃ k, v = .bool k ∧ EP X pins σ Q (.bool (!k)) s' := by
  obtain ⟨x, H', I, r, k, rfl, q⟩ := h
  cases r
  exact ⟨k, rfl, .bl (!k), H', I, rfl, q⟩
theorem op_neO (T : Opc X.K C) (hn : PySem.W.findIn X.K (.ref C) "__ne__" = some (some (.builtin "object.__ne__"))) (hs : PySem.W.findIn X.K (.ref C) "__eq__" = some (some (.ref f))) (hf : PySem.W.isFn X.K (.ref f) = true)
    (F : FnOk X.prog X.w X.K X.mg X.base CX n f fd ps sp) (hr : Room (n + 1) X.A) (hb : Binds X.K fd ps []) (hx : Passes CX X E) : OpR X (compareOp .NotEq) (rNeO C sp E) := by
  intro pins s σ H x y v u Q I rx ry h
  obtain ⟨⟨a, dx, fs, rfl, ha⟩, p, q⟩ := h
  obtain ⟨tb, lb, nf⟩ := p.look I ry
  cases rx
  obtain ⟨mA, J, _⟩ := ins_get I.hok ha
  obtain ⟨od, J, _⟩ := J.look
  show wpAny _ _ (richCompare .NotEq (.ref a) u) _ _ _
  exact cmpL_K hr.units0 I.kIn J lb nf (tryNe_K (hu_of hr) I.kIn J hn T.obj hs hf (wpAny_mono (run_in1 F hr hb hx I (v2ry _ ry) q) (fun v s' z => ne_back z) fun _ _ e => e))
def rNeOR (C : Addr) (sp : Sp) (E : XK) : R2 := fun x y H Q => (∃ i, x = .int i) ∧ IsC C y H ∧ sp [y, x] H (fun v H' => ∃ k, v = .bl k ∧ Q (.bl (!k)) H') E
theorem op_neOR (T : Opc X.K C) (IC : IntCmp .NotEq) (hn : PySem.W.findIn X.K (.ref C) "__ne__" = some (some (.builtin "object.__ne__"))) (hs : PySem.W.findIn X.K (.ref C) "__eq__" = some (some (.ref f))) (hf : PySem.W.isFn X.K (.ref f) = true)
    (F : FnOk X.prog X.w X.K X.mg X.base CX n f fd ps sp) (hr : Room (n + 1) X.A) (hb : Binds X.K fd ps []) (hx : Passes CX X E) : OpR X (compareOp .NotEq) (rNeOR C sp E) := by
  intro pins s σ H x y v u Q I rx ry h
  obtain ⟨⟨i, rfl⟩, ⟨a, dx, fs, rfl, ha⟩, q⟩ := h
  cases ry
  obtain ⟨t, rfl⟩ := rx
  obtain ⟨mA, J, _⟩ := ins_get I.hok ha
  obtain ⟨od, J, _⟩ := J.look
  obtain ⟨id, B, s1, s2, s3, s4⟩ := IC.sl
  show wpAny _ _ (richCompare .NotEq _ _) _ _ _
  exact cmpR_K hr.units0 I.kIn J rfl T.nInt s1 s2 (s3 _ _ _) s4 (tryNe_K (hu_of hr) I.kIn J hn T.obj hs hf (wpAny_mono (run_in1 F hr hb hx I (v2ri _ _ _) q) (fun v s' z => ne_back z) fun _ _ e => e))
end
end Mo

namespace Mo
open PySem PySem.W PySem.Calls PyProof.Rows
section
variable {prog : Program} {w : World} {M : Model} {A : Around} {E : Value → Shared → Prop} {s : Shared} {K : Frag} {x C L f : Addr} {h₀ : Heap} {m : Str → Option Value} {ox : Obj} {od : Option Obj}
/-- the class's mro is itself and object -/
def twoUp (K : Frag) (C : Addr) : Bool := (clsIn K C).any fun cd => cd.mro == [.ref C, .type "object"]
theorem noInpl {op : Operator} {h : Heap} {add : Bool} (X : K.In h) (h2 : twoUp K C = true) (hi : findIn K (.ref C) (dunderI op.info.2) = some none) (ho : ∀ M : Model, Looks M h (typeLookup (.type "object") (dunderI op.info.2)) none) : Looks M h (fillsInplaceSlot (.ref C) op.info.2 add) false := by
  intro A Q E s k q
  obtain ⟨cd, hc, hm0⟩ := any_some h2
  have hm : cd.mro = [.ref C, .type "object"] := beq_iff_eq.mp hm0
  have Lm : Looks M h (mroOf (.ref C)) cd.mro := (looks_clsIn X hc).andThen (f := fun cd => pure cd.mro) .now
  have Lm' := Lm.keeps k
  have L2 := (ho M).keeps k
  obtain ⟨hh, g, d, tt, os⟩ := s
  have X' : K.In hh := X.keeps k
  have L1 : Looks M hh (typeLookup (.ref C) (dunderI op.info.2)) none := looks_findIn X' hi
  unfold fillsInplaceSlot
  refine wpAny_bind (Lm'.at ?_)
  rw [hm, List.anyM_cons]
  refine wpAny_bind ?_
  repeat lk
  exact q
/-- what both of an own class's two-place operators come to: the left one's method -/
theorem bin1_same {nm : String} {b : Value} {Q : Value → Shared → Prop} (X : K.In s.heap) (I : InstAt s.heap x ox C od) (hb : Looks (model prog w) s.heap (typeOf b) (.ref C)) (hc : selfFirst K C = true)
    (hs : findIn K (.ref C) (PySem.dunder nm) = some (some (.ref f))) (hf : isFn K (.ref f) = true) (h : wpAny (model prog w) A (call (.ref f) [.ref x, b]) (W.CmpBack Q) E s) :
    wpAny (model prog w) A (binaryOp1 nm (.ref x) b) (fun r s' => ∃ v, r = some v ∧ Q v s') E s := by
  obtain ⟨cd, rest, hcd, hm⟩ := ksp_first hc
  have one := ksp_try X I hs hf h
  have Lf : Looks (model prog w) s.heap (fillsNumberSlot (.ref C) nm) true := fills_K X hcd hm hs
  unfold binaryOp1
  refine wpAny_bind (I.type.here (wpAny_bind (hb.here (wpAny_bind (Lf.here ?_)))))
  simp only [beq_self_eq_true, if_true]
  refine wpAny_bind (wpAny_pure ?_)
  simp only [Bool.and_false, Bool.false_eq_true, if_false, Bool.false_and]
  refine wpAny_bind (wpAny_pure ?_)
  simp only [Bool.false_eq_true, if_false]
  refine wpAny_bind (m := tryMethod (.ref x) _ b) (wpAny_mono one (fun r s' ⟨v, e, hq⟩ => ?_) fun _ _ e => e)
  subst e
  exact wpAny_pure ⟨v, rfl, hq⟩
theorem bin1_type {nm T : String} {b : Value} {fo ro rc : Option Value} {Q : Value → Shared → Prop} (X : K.In s.heap) (I : InstAt s.heap x ox C od) (hb : typeOf b = pure (.type T)) (hc : selfFirst K C = true)
    (hs : findIn K (.ref C) (PySem.dunder nm) = some (some (.ref f))) (hf : isFn K (.ref f) = true) (hr : findIn K (.ref C) (dunderR nm) = some rc) (hp : rc = none ∨ ∃ g : Addr, rc = some (.ref g))
    (h1 : findIn K (.type T) (PySem.dunder nm) = some fo) (h2 : findIn K (.type T) (dunderR nm) = some ro) (hsub : subIn K (.type T) (.ref C) = some false)
    (h : wpAny (model prog w) A (call (.ref f) [.ref x, b]) (W.CmpBack Q) E s) : wpAny (model prog w) A (binaryOp1 nm (.ref x) b) (fun r s' => ∃ v, r = some v ∧ Q v s') E s := by
  obtain ⟨cd, rest, hcd, hm⟩ := ksp_first hc
  have one := ksp_try X I hs hf h
  obtain ⟨hh, g, d, tk, os⟩ := s
  have M1 : Looks (model prog w) hh (typeOf (.ref x)) (.ref C) := I.type
  have M2 : Looks (model prog w) hh (typeOf b) (.type T) := Looks.of_pure hb
  have M3 : Looks (model prog w) hh (fillsNumberSlot (.ref C) nm) true := fills_K X hcd hm hs
  have M4 : Looks (model prog w) hh (fillsNumberSlot (.type T) nm) ((fo.isSome && !isSeqSlot fo) || (ro.isSome && !isSeqSlot ro)) := ksp_fillsT X h1 h2
  have M5 : Looks (model prog w) hh (isSubtype (.type T) (.ref C)) false := looks_subIn X hsub
  have M6 : Looks (model prog w) hh (numberSlotInPython (.ref C) nm) true := ksp_inPy X hs hr hp
  have M7 : Looks (model prog w) hh (numberSlotInPython (.type T) nm) false := Looks.of_pure rfl
  have M8 : Looks (model prog w) hh (typeLookup (.type T) (dunderR nm)) ro := looks_findIn X h2
  generalize ((fo.isSome && !isSeqSlot fo) || (ro.isSome && !isSeqSlot ro)) = right at M4
  have hne : (Value.ref C == Value.type T) = false := Bool.eq_false_iff.mpr fun q => by cases beq_iff_eq.mp q
  unfold binaryOp1
  refine wpAny_bind (M1.at (wpAny_bind (M2.at (wpAny_bind (M3.at ?_)))))
  simp only [hne, Bool.false_eq_true, if_false]
  cases right <;> (ksp_lk; refine wpAny_mono one (fun r s' hr' => ?_) fun _ _ e => e; obtain ⟨v, rfl, hq⟩ := hr'; ksp_lk; exact ⟨v, rfl, hq⟩)
theorem inpl_K {op : Operator} {b : Value} {Q : Value → Shared → Prop} (X : K.In s.heap) (I : InstAt s.heap x ox C od) (h2 : twoUp K C = true) (hi : findIn K (.ref C) (dunderI op.info.2) = some none) (ho : ∀ (M : Model) (h : Heap), Looks M h (typeLookup (.type "object") (dunderI op.info.2)) none)
    (h : wpAny (model prog w) A (binaryOp1 op.info.2 (.ref x) b) (fun r s' => ∃ v, r = some v ∧ Q v s') E s) : wpAny (model prog w) A (inplaceOp op (.ref x) b) Q E s := by
  have N : Looks (model prog w) s.heap (fillsInplaceSlot (.ref C) op.info.2 (op == .Add)) false := noInpl X h2 hi fun M => ho M _
  unfold inplaceOp
  refine wpAny_holding (wpAny_bind (I.type.here (wpAny_bind (N.here ?_))))
  rw [if_neg Bool.false_ne_true]
  refine wpAny_bind (wpAny_mono h (fun r s' hr' => ?_) fun _ _ e => e)
  obtain ⟨v, rfl, hq⟩ := hr'
  exact wpAny_pure hq
end
open L2
section
variable {X : Cx} {CX : CXT} {n k : Nat} {f f₁ C : Addr} {fd : FuncData} {ps : List Str} {sp : Sp} {E : XK}
/-- a op= b, the class without the in-place method -/
theorem iop_own {op : Operator} (T : Opc X.K C) (h2 : twoUp X.K C = true) (hi : PySem.W.findIn X.K (.ref C) (dunderI op.info.2) = some none) (ho : typeLookup (.type "object") (dunderI op.info.2) = pure none)
    (IO : IntOp op) (O : Op2 X.K C op.info.2 f) (F : FnOk X.prog X.w X.K X.mg X.base CX n f fd ps sp) (hr : Room n X.A) (hb : Binds X.K fd ps []) (hx : Passes CX X E) : OpR X (inplaceOp op) (rOwn C sp E) := by
  intro pins s σ H x y v u Q I rx ry h
  obtain ⟨⟨a, dx, fs, rfl, ha⟩, hy, q⟩ := h
  cases rx
  obtain ⟨mA, J, _⟩ := ins_get I.hok ha
  obtain ⟨od, J, _⟩ := J.look
  refine inpl_K I.kIn J h2 hi (fun M h => Looks.of_pure ho) ?_
  rcases hy with ⟨b, dy, gs, rfl, hb'⟩ | ⟨i, rfl⟩
  · cases ry
    obtain ⟨mB, J', _⟩ := ins_get I.hok hb'
    obtain ⟨od', J', _⟩ := J'.look
    exact bin1_same I.kIn J J'.type T.sf O.at_ O.fn (run_op F hr hb hx I (v2rr _ _) q)
  · obtain ⟨t, rfl⟩ := ry
    obtain ⟨fo, ro, e1, e2⟩ := IO.fo
    obtain ⟨g, e3⟩ := O.rr
    obtain ⟨rc, e4, e5⟩ : ∃ rc, PySem.W.findIn X.K (.ref C) (PySem.dunderR op.info.2) = some rc ∧ (rc = none ∨ ∃ g : Addr, rc = some (.ref g)) := by
      rcases e3 with e3 | e3
      · exact ⟨_, e3, .inl rfl⟩
      · exact ⟨_, e3, .inr ⟨g, rfl⟩⟩
    exact bin1_type (T := "int") I.kIn J rfl T.sf O.at_ O.fn e4 e5 (e1 _) (e2 _) nf_int (run_op F hr hb hx I (v2ri _ _ _) q)
/-! the operators' facts of int -/
theorem dec_fdiv : Declines Builtin.«int.__floordiv__» := by
  intro M A E s i t x ox Q hx hd h
  obtain ⟨hp, g', d, tk, os⟩ := s
  unfold Builtin.«int.__floordiv__» Builtin.Int.intBinary
  wp_walk using wpAny_loadPart' hx
  rw [hd]
  wp_walk using wpAny_loadPart' hx
  rw [hd]
  wp_walk
  exact h
theorem io_add : IntOp .Add := ⟨some (.builtin "int.__add__"), some (.builtin "int.__radd__"), fun K => (show PySem.fastLookup "int" (PySem.dunder "add") = _ by decide +kernel), fun K => (show PySem.fastLookup "int" (PySem.dunderR "add") = _ by decide +kernel)⟩
theorem ir_add : IntOpR .Add := ⟨⟨_, _, PySem.F.slot_int_add, PySem.F.entry_int_add, fun _ _ _ => PySem.F.args_int_add_2 _ _, dec_bin⟩, PySem.F.fills_int_add⟩
theorem io_sub : IntOp .Sub := ⟨some (.builtin "int.__sub__"), some (.builtin "int.__rsub__"), fun K => (show PySem.fastLookup "int" (PySem.dunder "sub") = _ by decide +kernel), fun K => (show PySem.fastLookup "int" (PySem.dunderR "sub") = _ by decide +kernel)⟩
theorem ir_sub : IntOpR .Sub := ⟨⟨_, _, PySem.F.slot_int_sub, PySem.F.entry_int_sub, fun _ _ _ => PySem.F.args_int_sub_2 _ _, dec_bin⟩, PySem.F.fills_int_sub⟩
theorem io_mul : IntOp .Mult := ⟨some (.builtin "int.__mul__"), some (.builtin "int.__rmul__"), fun K => (show PySem.fastLookup "int" (PySem.dunder "mul") = _ by decide +kernel), fun K => (show PySem.fastLookup "int" (PySem.dunderR "mul") = _ by decide +kernel)⟩
theorem ir_mul : IntOpR .Mult := ⟨⟨_, _, PySem.F.slot_int_mul, PySem.F.entry_int_mul, fun _ _ _ => PySem.F.args_int_mul_2 _ _, dec_bin⟩, PySem.F.fills_int_mul⟩
theorem io_floordiv : IntOp .FloorDiv := ⟨some (.builtin "int.__floordiv__"), some (.builtin "int.__rfloordiv__"), fun K => (show PySem.fastLookup "int" (PySem.dunder "floordiv") = _ by decide +kernel), fun K => (show PySem.fastLookup "int" (PySem.dunderR "floordiv") = _ by decide +kernel)⟩
theorem ir_floordiv : IntOpR .FloorDiv := ⟨⟨_, _, PySem.F.slot_int_floordiv, PySem.F.entry_int_floordiv, fun _ _ _ => PySem.F.args_int_floordiv_2 _ _, dec_fdiv⟩, PySem.F.fills_int_floordiv⟩
theorem io_mod : IntOp .Mod := ⟨some (.builtin "int.__mod__"), some (.builtin "int.__rmod__"), fun K => (show PySem.fastLookup "int" (PySem.dunder "mod") = _ by decide +kernel), fun K => (show PySem.fastLookup "int" (PySem.dunderR "mod") = _ by decide +kernel)⟩
theorem ir_mod : IntOpR .Mod := ⟨⟨_, _, PySem.F.slot_int_mod, PySem.F.entry_int_mod, fun _ _ _ => PySem.F.args_int_mod_2 _ _, dec_bin⟩, PySem.F.fills_int_mod⟩
theorem ic_lt : IntCmp .Lt := ⟨fun _ _ => rfl, ⟨_, _, PySem.F.slot_int_lt, PySem.F.entry_int_lt, fun _ _ _ => PySem.F.args_int_lt_2 _ _, dec_bin⟩⟩
theorem ic_le : IntCmp .LtE := ⟨fun _ _ => rfl, ⟨_, _, PySem.F.slot_int_le, PySem.F.entry_int_le, fun _ _ _ => PySem.F.args_int_le_2 _ _, dec_bin⟩⟩
theorem ic_gt : IntCmp .Gt := ⟨fun _ _ => rfl, ⟨_, _, PySem.F.slot_int_gt, PySem.F.entry_int_gt, fun _ _ _ => PySem.F.args_int_gt_2 _ _, dec_bin⟩⟩
theorem ic_ge : IntCmp .GtE := ⟨fun _ _ => rfl, ⟨_, _, PySem.F.slot_int_ge, PySem.F.entry_int_ge, fun _ _ _ => PySem.F.args_int_ge_2 _ _, dec_bin⟩⟩
theorem ic_eq : IntCmp .Eq := ⟨fun _ _ => rfl, ⟨_, _, PySem.F.slot_int_eq, PySem.F.entry_int_eq, fun _ _ _ => PySem.F.args_int_eq_2 _ _, dec_bin⟩⟩
theorem ic_ne : IntCmp .NotEq := ⟨fun _ _ => rfl, ⟨_, _, PySem.F.slot_int_ne, PySem.F.entry_int_ne, fun _ _ _ => PySem.F.args_int_ne_2 _ _, dec_bin⟩⟩
end
end Mo

namespace Mo
open PySem L2
/-! ### fractions in lowest terms -/
def Red (t b : Int) : Prop := 0 < b ∧ Int.gcd t b = 1
structure Norm (n d t b : Int) : Prop where
  pos : 0 < b
  gcd : Int.gcd t b = 1
  eq : t * d = n * b
  tle : t.natAbs ≤ n.natAbs
  ble : b.natAbs ≤ d.natAbs
theorem Norm.red {n d t b : Int} (h : Norm n d t b) : Red t b := ⟨h.pos, h.gcd⟩
def sg (n d : Int) : Int := if 0 < d then ((Nat.gcd n.natAbs d.natAbs : Nat) : Int) else -((Nat.gcd n.natAbs d.natAbs : Nat) : Int)
theorem sg_ne {n d : Int} (hd : d ≠ 0) : sg n d ≠ 0 := by
  have hg : 0 < Nat.gcd n.natAbs d.natAbs := Nat.gcd_pos_of_pos_right _ (by omega)
  unfold sg
  split <;> omega
theorem sg_le {n d : Int} (hd : d ≠ 0) : (sg n d).natAbs ≤ d.natAbs := by
  have hg : Nat.gcd n.natAbs d.natAbs ≤ d.natAbs := Nat.gcd_le_right _ (by omega)
  unfold sg
  split <;> omega
theorem norm_mk {n d : Int} (hd : d ≠ 0) : Norm n d (n.fdiv (sg n d)) (d.fdiv (sg n d)) := by
  have hg : 0 < Nat.gcd n.natAbs d.natAbs := Nat.gcd_pos_of_pos_right _ (by omega)
  have hne := sg_ne (n := n) hd
  have habs : (sg n d).natAbs = Int.gcd n d := by
    show _ = Nat.gcd n.natAbs d.natAbs
    unfold sg
    split <;> omega
  have hs1 : 0 < d → 0 < sg n d := fun h0 => by unfold sg; rw [if_pos h0]; omega
  have hs2 : d < 0 → sg n d < 0 := fun h0 => by unfold sg; rw [if_neg (by omega)]; omega
  have hn : sg n d ∣ n := by
    rw [← Int.natAbs_dvd, habs]
    exact Int.gcd_dvd_left n d
  have hdd : sg n d ∣ d := by
    rw [← Int.natAbs_dvd, habs]
    exact Int.gcd_dvd_right n d
  generalize sg n d = g at *
  obtain ⟨n', en⟩ := hn
  obtain ⟨d', ed⟩ := hdd
  subst en
  subst ed
  rw [Int.mul_fdiv_cancel_left _ hne, Int.mul_fdiv_cancel_left _ hne]
  have hp : 0 < g.natAbs := by omega
  have hgg : Int.gcd n' d' = 1 := by
    rw [Int.gcd_mul_left] at habs
    exact Nat.eq_of_mul_eq_mul_left hp (by rw [Nat.mul_one]; exact habs.symm)
  refine ⟨?_, hgg, ?_, ?_, ?_⟩
  · by_cases h0 : 0 < g * d'
    · exact Int.lt_of_mul_lt_mul_left (a := g) (by rw [Int.mul_zero]; exact h0) (Int.le_of_lt (hs1 h0))
    · have h1 : g * d' < 0 := by omega
      have h2 : 0 < (-g) * d' := by rw [Int.neg_mul]; omega
      exact Int.lt_of_mul_lt_mul_left (a := -g) (by rw [Int.mul_zero]; exact h2) (by have := hs2 h1; omega)
  · rw [Int.mul_left_comm, Int.mul_assoc]
  · rw [Int.natAbs_mul]
    exact Nat.le_mul_of_pos_left _ hp
  · rw [Int.natAbs_mul]
    exact Nat.le_mul_of_pos_left _ hp
theorem red_dvd {t b t' b' : Int} (h : Int.gcd t b = 1) (e : t * b' = t' * b) : b ∣ b' := by
  have h1 : b.natAbs ∣ t.natAbs * b'.natAbs := by
    rw [← Int.natAbs_mul, e, Int.natAbs_mul]
    exact Nat.dvd_mul_left _ _
  have h2 : Nat.Coprime b.natAbs t.natAbs := by
    show Nat.gcd b.natAbs t.natAbs = 1
    rw [Nat.gcd_comm]
    exact h
  exact Int.natAbs_dvd_natAbs.mp (h2.dvd_of_dvd_mul_left h1)
theorem red_eq {t b t' b' : Int} (h : Red t b) (h' : Red t' b') (e : t * b' = t' * b) : t = t' ∧ b = b' := by
  have d1 := red_dvd h.2 e
  have d2 := red_dvd h'.2 e.symm
  have hb : b = b' := Int.dvd_antisymm (Int.le_of_lt h.1) (Int.le_of_lt h'.1) d1 d2
  subst hb
  exact ⟨Int.eq_of_mul_eq_mul_right (by have := h.1; omega) e, rfl⟩
theorem red_iff {t b t' b' : Int} (h : Red t b) (h' : Red t' b') : (t = t' ∧ b = b') ↔ t * b' = t' * b :=
  ⟨fun ⟨e1, e2⟩ => by rw [e1, e2], red_eq h h'⟩
/-! ### sizes -/
def Sm (k : Nat) (n : Int) : Prop := n.natAbs < 2 ^ k
theorem Sm.mono {k j : Nat} {n : Int} (h : Sm k n) (hk : k ≤ j) : Sm j n := Nat.lt_of_lt_of_le h (Nat.pow_le_pow_right (by decide) hk)
theorem Sm.mul {k j : Nat} {n m : Int} (h : Sm k n) (h' : Sm j m) : Sm (k + j) (n * m) := wide_lt h h'
theorem Sm.add {k : Nat} {n m : Int} (h : Sm k n) (h' : Sm k m) : Sm (k + 1) (n + m) := by
  unfold Sm at *
  rw [Nat.pow_succ]
  omega
theorem Sm.sub {k : Nat} {n m : Int} (h : Sm k n) (h' : Sm k m) : Sm (k + 1) (n - m) := by
  unfold Sm at *
  rw [Nat.pow_succ]
  omega
theorem Sm.neg {k : Nat} {n : Int} (h : Sm k n) : Sm k (-n) := by
  unfold Sm at *
  omega
theorem Sm.le {k : Nat} {n m : Int} (h : Sm k m) (h' : n.natAbs ≤ m.natAbs) : Sm k n := Nat.lt_of_le_of_lt h' h
theorem Sm.of {k : Nat} {n m : Int} (h : -m ≤ n ∧ n ≤ m) (hm : m.natAbs < 2 ^ k) : Sm k n := Nat.lt_of_le_of_lt (by omega) hm
theorem Sm.cmul {k j : Nat} {n m : Int} (h : Sm k n) (h' : Sm j m) (h0 : 0 < k := by decide) (h1 : 0 < j := by decide) (hk : k + j ≤ 1000000 := by decide) : CMulW n m := wide_mul h h' h0 h1 hk
/-- // by a divisor that is not 0, below 2 ^ 9000 -/
def CDivNW (_ j : Int) : Prop := j ≠ 0 ∧ j.natAbs.log2 < 9000
theorem op_fdivNW {X : Cx} : OpR X (binaryOp .FloorDiv) (rI CDivNW fun i j => .int (i.fdiv j)) := opI fun i j _ _ _ _ _ hc q => PyProof.Rows.floordiv_int hc.1 q (.inl (PyProof.noPylong_of_log2 hc.2))
theorem Sm.cdiv {k : Nat} {i j : Int} (h : Sm k j) (h0 : j ≠ 0) (h1 : 0 < k := by decide) (hk : k ≤ 9000 := by decide) : CDivNW i j := ⟨h0, Nat.lt_of_lt_of_le (PySem.Flt.log2_lt_of h1 h) hk⟩
end Mo

namespace Mo
open PySem L2
open Evl (Ex)
/-! ### a moment as an object -/
def mf (t b : Int) : List (Str × V) := putF "bottom" (.int b) (putF "top" (.int t) [])
theorem ntb : ¬ (("top" : Str) = "bottom") := by decide +kernel
theorem mf_eq (t b : Int) : mf t b = ([("top", V.int t), ("bottom", V.int b)] : List (Str × V)) := by
  show (if ("top" : Str) = "bottom" then [(("top" : Str), V.int b)] else (("top" : Str), V.int t) :: putF "bottom" (V.int b) []) = ([("top", V.int t), ("bottom", V.int b)] : List (Str × V))
  rw [if_neg ntb]
  all_goals rfl
theorem mf_top (t b : Int) : (mf t b).lookup ("top" : Str) = some (.int t) := by
  unfold mf
  rw [lookup_putF, if_neg ntb, lookup_putF, if_pos rfl]
theorem mf_bottom (t b : Int) : (mf t b).lookup ("bottom" : Str) = some (.int b) := by
  unfold mf
  rw [lookup_putF, if_pos rfl]
theorem mf_no (t b : Int) {m : Str} (h1 : ¬ m = "bottom") (h2 : ¬ m = "top") : (mf t b).lookup m = none := by
  unfold mf
  rw [lookup_putF, if_neg h1, lookup_putF, if_neg h2]
  all_goals rfl
def Mo (C : Addr) (t b : Int) (v : V) (H : Hp) : Prop := ∃ a dx, v = .ref a ∧ H a = some (.ins C dx (mf t b))
theorem Mo.ex {C : Addr} {t b : Int} {v : V} {H H' : Hp} (h : Mo C t b v H) (e : Ex H H') : Mo C t b v H' := by
  obtain ⟨a, dx, r, q⟩ := h
  exact ⟨a, dx, r, e _ _ q⟩
theorem Mo.isC {C : Addr} {t b : Int} {v : V} {H : Hp} (h : Mo C t b v H) : IsC C v H := by
  obtain ⟨a, dx, r, q⟩ := h
  exact ⟨a, dx, _, r, q⟩
theorem Mo.par {C : Addr} {t b : Int} {v : V} {H : Hp} (h : Mo C t b v H) : Par C H v := by
  obtain ⟨a, dx, rfl, q⟩ := h
  exact .ins q
/-- the fraction of a time: a moment, or an int -/
def Tm (C : Addr) (t b : Int) (v : V) (H : Hp) : Prop := Mo C t b v H ∨ (v = .int t ∧ b = 1)
theorem Tm.ex {C : Addr} {t b : Int} {v : V} {H H' : Hp} (h : Tm C t b v H) (e : Ex H H') : Tm C t b v H' := h.elim (fun h => .inl (h.ex e)) .inr
theorem Tm.par {C : Addr} {t b : Int} {v : V} {H : Hp} (h : Tm C t b v H) : Par C H v := by
  rcases h with h | ⟨rfl, _⟩
  · exact h.par
  · exact .int _
theorem Tm.op {C : Addr} {t b : Int} {v : V} {H : Hp} (h : Tm C t b v H) : IsC C v H ∨ ∃ i, v = .int i := by
  rcases h with h | ⟨rfl, _⟩
  · exact .inl h.isC
  · exact .inr ⟨_, rfl⟩
/-! ### a def, a method, a class as the top has left them -/
section
variable (P : Program) (w : World) (K : PySem.W.Frag) (mg : Str → Option Value) (base : Heap)
/-- a def by its name, that keeps sp -/
def Ok (CX : CXT) (k : Nat) (x : Str) (ps : List Str) (sp : Sp) : Prop := ∃ f fd, FnOk P w K mg base CX k f fd ps sp ∧ mg x = some (.ref f) ∧ PySem.W.keepIn K (.ref f) = true ∧ Binds K fd ps []
/-- a method of the class at C -/
def OkM (C : Addr) (CX : CXT) (k : Nat) (x : Str) (ps : List Str) (sp : Sp) : Prop := ∃ f fd, FnOk P w K mg base CX k f fd ps sp ∧ PySem.W.findIn K (.ref C) x = some (some (.ref f)) ∧ PySem.W.isFn K (.ref f) = true ∧ PySem.W.keepIn K (.ref f) = true ∧ Binds K fd ps []
end
/-! ### promises -/
def spCell (K : PySem.W.Frag) : Sp := fun vs H Q _ => ∃ (l : Addr) (ns : List Int) (j : Int), vs = [.ref l, .int j] ∧ SqL K H l (ns.map V.int) ∧ 0 ≤ j ∧ ns.length ≤ 63 ∧ ∀ z : Int, Q (.int z) H
def spRow (K : PySem.W.Frag) : Sp := fun vs H Q _ => ∃ (c : Int) (l : Addr) (zs : List Int), vs = [.int c, .ref l] ∧ SqL K H l (zs.map V.int) ∧ zs.length ≤ 40 ∧ (∀ z ∈ zs, 0 < z ∧ z < 1073741824) ∧
  ∀ (p : Addr) (ys : List Int) (H' : Hp), Ex H H' → H' p = some (.lst (ys.map V.int)) → ys.length = zs.length → (∀ (i : Nat) (y z : Int), ys[i]? = some y → zs[i]? = some z → 0 ≤ y ∧ y < z) → Q (.ref p) H'
def spWhole : Sp := fun vs H Q _ => ∃ c m : Int, vs = [.int c, .int m] ∧ 0 < m ∧ Sm 1000 m ∧ ∀ z : Int, -m ≤ z → z ≤ m → Q (.int z) H
def spRatio : Sp := fun vs H Q _ => ∃ a b m : Int, vs = [.int a, .int b, .int m] ∧ 0 < m ∧ Sm 1000 m ∧ ∀ (t d : Int) (p : Addr) (H' : Hp), Ex H H' → H' p = some (.tup [.int t, .int d]) → -m ≤ t → t ≤ m → -m ≤ d → d ≤ m → d ≠ 0 → Q (.ref p) H'
def spGcd : Sp := fun vs H Q _ => ∃ a b : Int, vs = [.int a, .int b] ∧ Sm 8000 a ∧ Sm 8000 b ∧ Q (.int ((Int.gcd a b : Nat) : Int)) H
def spIsInt : Sp := fun vs H Q _ => ∃ a : Int, vs = [.int a] ∧ ∀ H', Ex H H' → Q (.bl true) H'
def spHolds (C : Addr) : Sp := fun vs H Q _ => ∃ (x : V) (t b n d : Int), vs = [x, .int n, .int d] ∧ Mo C t b x H ∧ Red t b ∧ t * d = n * b ∧ Sm 4000 t ∧ Sm 4000 b ∧ Sm 4000 n ∧ Sm 4000 d ∧ ∀ H', Ex H H' → Q (.bl true) H'
/-- Moment(n, d); CN: NoMoment -/
def spInit (C CN : Addr) : Sp := fun vs H Q E => ∃ (p dx : Addr) (n d : Int), vs = [.ref p, .int n, .int d] ∧ H p = some (.ins C dx []) ∧ Sm 8000 n ∧ Sm 8000 d ∧
  (d = 0 → ∀ (dd : Addr) (fs : List (Str × V)) (H' : Hp), H dd = none → fs.lookup ("top" : Str) = some (.int n) → fs.lookup ("bottom" : Str) = some (.int 0) → H' dd = some (.xd fs) → (∀ q o, H q = some o → H' q = some o) → E (.ref CN) (some dd) H') ∧
  (d ≠ 0 → ∀ t b : Int, Norm n d t b → Q .non (upd H p (.ins C dx (mf t b))))
end Mo
namespace Mo
open PySem L2
open Evl (Ex)
section
variable (P : Program) (w : World) (K : PySem.W.Frag) (mg : Str → Option Value) (base : Heap)
def psIn : List Str := ["self", "top", "bottom"]
/-- the class's maker -/
def OkI (C CN : Addr) : Prop := ∃ f fd ds, FnOk P w K mg base (L2.CX P w) 4 f fd psIn (spInit C CN) ∧ Mk K C f ∧ Binds K fd psIn [] ∧ Vals [.int 1] ds ∧ Binds K fd psIn ds
end
theorem made_ok {C : Addr} {H : Hp} {x dx : Addr} (t b : Int) (n1 : H x = none) (n2 : H dx = none) (h : dx ≠ x) :
    Ex H (upd (upd (upd H dx (.own x)) x (.ins C dx [])) x (.ins C dx (mf t b))) ∧ Mo C t b (.ref x) (upd (upd (upd H dx (.own x)) x (.ins C dx [])) x (.ins C dx (mf t b))) := by
  refine ⟨fun a o e => ?_, x, dx, rfl, upd_same⟩
  have q1 : a ≠ x := ne_of_none e n1
  have q2 : a ≠ dx := ne_of_none e n2
  rw [upd_ne q1, upd_ne q1, upd_ne q2]
  exact e
theorem mk_rd {C CN : Addr} {n d : Int} {H : Hp} {Q : VK} {E : XK} (sn : Sm 8000 n) (sd : Sm 8000 d) (hd : d ≠ 0) (k : ∀ (t b : Int) (v : V) (H' : Hp), Norm n d t b → Ex H H' → Mo C t b v H' → Q v H') :
    ∀ x dx, H x = none → H dx = none → dx ≠ x → spInit C CN (.ref x :: ([.int n, .int d] ++ [])) (upd (upd H dx (.own x)) x (.ins C dx [])) (fun v H2 => v = .non ∧ Q (.ref x) H2) E :=
  fun x dx n1 n2 n3 => ⟨x, dx, n, d, rfl, upd_same, sn, sd, fun z => absurd z hd, fun _ t b N => ⟨rfl, k t b _ _ N (made_ok t b n1 n2 n3).1 (made_ok t b n1 n2 n3).2⟩⟩
theorem mk_rd1 {C CN : Addr} {n : Int} {H : Hp} {Q : VK} {E : XK} (sn : Sm 8000 n) (k : ∀ (v : V) (H' : Hp), Ex H H' → Mo C n 1 v H' → Q v H') :
    ∀ x dx, H x = none → H dx = none → dx ≠ x → spInit C CN (.ref x :: ([.int n] ++ [.int 1])) (upd (upd H dx (.own x)) x (.ins C dx [])) (fun v H2 => v = .non ∧ Q (.ref x) H2) E :=
  fun x dx n1 n2 n3 => ⟨x, dx, n, 1, rfl, upd_same, sn, (by show (1 : Int).natAbs < 2 ^ 8000; exact Nat.lt_of_lt_of_le (by decide : (1 : Int).natAbs < 2 ^ 1) (Nat.pow_le_pow_right (by decide) (by decide))), fun z => absurd z (by decide), fun _ t b N => by
    have b1 : b = 1 := by
      have := N.pos
      have := N.ble
      omega
    have t1 : t = n := by
      have := N.eq
      rw [b1] at this
      omega
    rw [b1, t1]
    exact ⟨rfl, k _ _ (made_ok n 1 n1 n2 n3).1 (made_ok n 1 n1 n2 n3).2⟩⟩
def spIsTime (C : Addr) : Sp := fun vs H Q _ => ∃ (x : V) (t b : Int), vs = [x] ∧ Tm C t b x H ∧ ∀ H', Ex H H' → Q (.bl true) H'
def spAsM (C : Addr) : Sp := fun vs H Q _ => ∃ (x : V) (t b : Int), vs = [x] ∧ Tm C t b x H ∧ Sm 8000 t ∧ ∀ (v : V) (H' : Hp), Ex H H' → Mo C t b v H' → Q v H'
/-- a two-place operator: the exact fraction num / den, in lowest terms -/
def spBin (C : Addr) (num den : Int → Int → Int → Int → Int) : Sp := fun vs H Q _ => ∃ (x y : V) (t b t' b' : Int), vs = [x, y] ∧ Mo C t b x H ∧ Tm C t' b' y H ∧ 0 < b ∧ 0 < b' ∧ Sm 1900 t ∧ Sm 1900 b ∧ Sm 1900 t' ∧ Sm 1900 b' ∧
  ∀ (t2 b2 : Int) (v : V) (H' : Hp), Norm (num t b t' b') (den t b t' b') t2 b2 → Ex H H' → Mo C t2 b2 v H' → Q v H'
/-- its reflected twin: self the right operand -/
def spBinR (C : Addr) (num den : Int → Int → Int → Int → Int) : Sp := fun vs H Q _ => ∃ (x y : V) (t b t' b' : Int), vs = [x, y] ∧ Mo C t b x H ∧ Tm C t' b' y H ∧ 0 < b ∧ 0 < b' ∧ Sm 1900 t ∧ Sm 1900 b ∧ Sm 1900 t' ∧ Sm 1900 b' ∧
  ∀ (t2 b2 : Int) (v : V) (H' : Hp), Norm (num t' b' t b) (den t' b' t b) t2 b2 → Ex H H' → Mo C t2 b2 v H' → Q v H'
def nAdd (t b t' b' : Int) : Int := t * b' + t' * b
def nSub (t b t' b' : Int) : Int := t * b' - t' * b
def nMul (t _ t' _ : Int) : Int := t * t'
def dAll (_ b _ b' : Int) : Int := b * b'
end Mo
namespace Mo
open PySem L2
theorem sml {n : Int} {k : Nat} (h : n.natAbs < 2 ^ k) : Sm k n := h
theorem Sm.ofR {k : Nat} {n m : Int} (h1 : -m ≤ n) (h2 : n ≤ m) (hm : Sm k m) : Sm k n := Sm.of ⟨h1, h2⟩ hm
/-! exact arithmetic of fractions n / d, told by t / b -/
theorem add_eq {t2 b2 ta ba tb bb n1 d1 n2 d2 : Int} (N : Norm (nAdd ta ba tb bb) (dAll ta ba tb bb) t2 b2) (h1 : ta * d1 = n1 * ba) (h2 : tb * d2 = n2 * bb) (p1 : 0 < ba) (p2 : 0 < bb) : t2 * (d1 * d2) = (n1 * d2 + n2 * d1) * b2 := by
  have h : t2 * (ba * bb) = (ta * bb + tb * ba) * b2 := N.eq
  exact Int.eq_of_mul_eq_mul_left (Int.ne_of_gt (Int.mul_pos p1 p2)) (by grind)
theorem sub_eq {t2 b2 ta ba tb bb n1 d1 n2 d2 : Int} (N : Norm (nSub ta ba tb bb) (dAll ta ba tb bb) t2 b2) (h1 : ta * d1 = n1 * ba) (h2 : tb * d2 = n2 * bb) (p1 : 0 < ba) (p2 : 0 < bb) : t2 * (d1 * d2) = (n1 * d2 - n2 * d1) * b2 := by
  have h : t2 * (ba * bb) = (ta * bb - tb * ba) * b2 := N.eq
  exact Int.eq_of_mul_eq_mul_left (Int.ne_of_gt (Int.mul_pos p1 p2)) (by grind)
theorem mul_eq {t2 b2 ta ba tb bb n1 d1 n2 d2 : Int} (N : Norm (nMul ta ba tb bb) (dAll ta ba tb bb) t2 b2) (h1 : ta * d1 = n1 * ba) (h2 : tb * d2 = n2 * bb) (p1 : 0 < ba) (p2 : 0 < bb) : t2 * (d1 * d2) = (n1 * n2) * b2 := by
  have h : t2 * (ba * bb) = (ta * tb) * b2 := N.eq
  exact Int.eq_of_mul_eq_mul_left (Int.ne_of_gt (Int.mul_pos p1 p2)) (by grind)
theorem Norm.st {n d t b : Int} {k : Nat} (N : Norm n d t b) (h : Sm k n) : Sm k t := h.le N.tle
theorem Norm.sb {n d t b : Int} {k : Nat} (N : Norm n d t b) (h : Sm k d) : Sm k b := h.le N.ble
def spLaw (K : PySem.W.Frag) : Sp := fun vs H Q _ => ∃ (a : Addr) (ns : List Int), vs = [.ref a] ∧ SqL K H a (ns.map V.int) ∧ ns.length ≤ 63 ∧ ∀ H', Q (.bl true) H'
theorem _root_.L2.SqT.ex' {K : PySem.W.Frag} {H H' : Hp} {a : Addr} {xs : List V} (h : SqT K H a xs) (e : Evl.Ex H H') : SqT K H' a xs := Evl.ex_t e h
theorem _root_.L2.SqL.ex' {K : PySem.W.Frag} {H H' : Hp} {a : Addr} {xs : List V} (h : SqL K H a xs) (e : Evl.Ex H H') : SqL K H' a xs := Evl.ex_l e h
end Mo
namespace Mo
theorem eq_of {t a b n a' n' : Int} (z : t * a = n * b) (ha : a' = a := by first | rfl | exact Int.mul_comm _ _ | (simp only [Int.mul_one, Int.one_mul]; done))
    (hn : n' = n := by first | rfl | exact Int.mul_comm _ _ | omega | (simp only [Int.mul_one, Int.one_mul]; done) | (simp only [Int.mul_one, Int.one_mul]; omega)) : t * a' = n' * b := by rw [ha, hn, z]
end Mo
namespace Mo
open PySem L2
theorem kit_self {K : PySem.W.Frag} {C : Addr} : PySem.W.kitOne K (.ref C) (.ref C) = some true := by
  unfold PySem.W.kitOne
  rw [if_pos (beq_self_eq_true _)]
theorem kit_ct {K : PySem.W.Frag} {C : Addr} {T : String} {b : Bool} (h : PySem.W.subIn K (.ref C) (.type T) = some b) (hm : PySem.W.kitMeta T = true := by decide +kernel) : PySem.W.kitOne K (.ref C) (.type T) = some b := by
  unfold PySem.W.kitOne
  rw [if_neg (by intro z; cases beq_iff_eq.mp z)]
  show (if PySem.W.kitMeta T = true then PySem.W.subIn K (.ref C) (.type T) else none) = some b
  rw [if_pos hm, h]
theorem kit_tc {K : PySem.W.Frag} {C : Addr} {T : String} {b : Bool} (hc : PySem.W.isClsIn K C = true) (ht : PySem.W.typeIn K (.ref C) = some (.type "type")) (h : PySem.W.subIn K (.type T) (.ref C) = some b) : PySem.W.kitOne K (.type T) (.ref C) = some b := by
  unfold PySem.W.kitOne
  rw [if_neg (by intro z; cases beq_iff_eq.mp z)]
  have h2 : (PySem.W.clsIn K C).isSome = true := hc
  show (if ((PySem.W.clsIn K C).isSome && PySem.W.typeIn K (.ref C) == some (.type "type")) = true then PySem.W.subIn K (.type T) (.ref C) else none) = some b
  rw [if_pos (by rw [h2, ht]; rfl), h]
theorem two_up {K : PySem.W.Frag} {C : Addr} {cd : ClassData} (h : PySem.W.clsIn K C = some cd) (hm : cd.mro = [.ref C, .type "object"]) : twoUp K C = true := by
  unfold twoUp
  rw [h]
  show (cd.mro == [.ref C, .type "object"]) = true
  rw [hm]
  exact beq_self_eq_true _
end Mo

namespace Mo
open PySem L2
open Evl (Ex)
section
variable {X : Cx} {CX : CXT} {k : Nat} {f C : Addr} {fd : FuncData} {ps : List Str} {sp : Sp} {E : St → XK} {x m : Str} {p pos apos : Pos} {e o : Expr} {es : List Expr} {ta : TE} {t : TA} {dvs : List V} {ds : List Value}
/-- C(..) in a try: what its __init__ raises is wished for at the caller's slots -/
def tMakeS (C : Addr) (sp : Sp) (dvs : List V) (E : St → XK) (t : TA) : TE := fun σ H Q => t σ H fun vs H1 => ∀ x dx, H1 x = none → H1 dx = none → dx ≠ x →
  sp (.ref x :: (vs ++ dvs)) (upd (upd H1 dx (.own x)) x (.ins C dx [])) (fun v H2 => v = .non ∧ Q (.ref x) H2) (E σ)
theorem run_makeS {pins : List (Addr × Obj)} {σ : St} {H : Hp} {s : Shared} {Q : VK} {us : List Value} {vs : List V} (M : Mk X.K C f) (F : FnOk X.prog X.w X.K X.mg X.base CX k f fd ps sp) (hr : Room (k + 1) X.A) (hb : Binds X.K fd ps ds) (hd : Vals dvs ds)
    (hx : PassesAt CX X σ (E σ)) (I : Inv X pins σ H s) (r : Vals vs us)
    (h : ∀ x dx, H x = none → H dx = none → dx ≠ x → sp (.ref x :: (vs ++ dvs)) (upd (upd H dx (.own x)) x (.ins C dx [])) (fun v H2 => v = .non ∧ Q (.ref x) H2) (E σ)) :
    wpAny (model X.prog X.w) X.A (call (.ref C) us) (EP X pins σ Q) X.xe s := by
  have at_ := h (s.heap.objs.size + 1) s.heap.objs.size (I.hok.fresh (Nat.le_succ _)) (I.hok.fresh (Nat.le_refl _)) (Nat.ne_of_lt (Nat.lt_succ_self _))
  have made := Inv.made (C := C) I
  have rel : Vals (V.ref (s.heap.objs.size + 1) :: (vs ++ dvs)) (Value.ref (s.heap.objs.size + 1) :: (us ++ ds)) := .cons rfl (r.append hd)
  have len : (Value.ref (s.heap.objs.size + 1) :: us ++ ds).length = ps.length := by
    have z := rel.length
    rw [F.len _ _ _ _ at_] at z
    exact z.symm
  refine wpAny_call (make_map (f := f) I.kIn M.makes M.init (beq_iff_eq.mp M.fn) (codeAny_mono (F.run _ X.stack _ _ ⟨Value.ref (s.heap.objs.size + 1) :: us, []⟩ (Value.ref (s.heap.objs.size + 1) :: (us ++ ds)) _ _ (E σ) (hr.make C us []) (made.env0.make C us [])
    (hb _ (Value.ref (s.heap.objs.size + 1) :: us) made.kIn len) rel at_) fun res s' q => ?_))
  cases res with
  | error er => exact hx pins _ _ er s' made q
  | ok fl => cases fl with
    | ret u =>
      obtain ⟨v, H', J, rv, ev, q3⟩ := made.after q
      subst ev
      exact ⟨rv, V.ref (s.heap.objs.size + 1), H', J, rfl, q3⟩
    | next => exact q.elim
    | brk => exact q.elim
    | cont => exact q.elim
theorem pe_makeS (M : Mk X.K C f) (F : FnOk X.prog X.w X.K X.mg X.base CX k f fd ps sp) (hr : Room (k + 1) X.A) (hg : Gl X x) (hm : X.mg x = some (.ref C)) (hb : Binds X.K fd ps ds) (hd : Vals dvs ds) (hx : ∀ σ, PassesAt CX X σ (E σ)) (ha : PA X (e :: es) t)
    (hdb : (x == ("__debug__" : Str)) = false := by decide) (he : starEach (e :: es) X.env = (false, eval e X.env) :: starEach es X.env := by rfl) (hpl : (backTo pos (starEach es X.env)).any (·.1) = false := by rfl) :
    PE X (.Call (.Name x p) (e :: es) [] pos) (tMakeS C sp dvs E t) :=
  ⟨fun pins s σ H Q I h => wpAny_Call_Name_kw (ld_glob I hg hm (PySem.W.callWith_K (h₀ := X.base) I.ok.mod.kin M.kp (thn (ha.run pos pins s σ H _ I h) fun us s1 ⟨vs, H1, I1, r, q⟩ => ⟨I1.kIn, run_makeS M F hr hb hd (hx σ) I1 r q⟩) he hpl) hdb)⟩
end
/-- except C, for an error of C -/
theorem exm_own {K : PySem.W.Frag} {S : Addr} (h1 : PySem.W.subIn K (.ref S) (.type "BaseException") = some true) (h2 : PySem.W.isClsIn K S = true) (h3 : PySem.W.typeIn K (.ref S) = some (.type "type")) (h4 : PySem.W.subIn K (.ref S) (.ref S) = some true) : PySem.W.exmOne K (.ref S) (.ref S) = some true := by
  have h2' : (PySem.W.clsIn K S).isSome = true := h2
  show (if (PySem.W.subIn K (.ref S) (.type "BaseException") == some true) = true then (if ((PySem.W.clsIn K S).isSome && PySem.W.typeIn K (.ref S) == some (.type "type")) = true then PySem.W.subIn K (.ref S) (.ref S) else none) else none) = some true
  rw [if_pos (by rw [h1]; rfl), if_pos (by rw [h2', h3]; rfl), h4]
/-- what is no time -/
inductive Oth (H : Hp) : V → Prop where
  | str (z : Str) : Oth H (.str z)
  | non : Oth H .non
  | lst {a : Addr} {xs : List V} (e : H a = some (.lst xs)) : Oth H (.ref a)
  | tup {a : Addr} {xs : List V} (e : H a = some (.tup xs)) : Oth H (.ref a)
theorem Oth.par {C : Addr} {H : Hp} {y : V} (h : Oth H y) : Par C H y := by
  cases h with
  | str z => exact .str z
  | non => exact .non
  | lst e => exact .lst e
  | tup e => exact .tup e
/-- x == y -/
def spEq2 (C : Addr) : Sp := fun vs H Q _ => ∃ (x y : V) (t b : Int), vs = [x, y] ∧ Mo C t b x H ∧ ((∃ t' b' : Int, Mo C t' b' y H ∧ ∀ (k : Bool) (H' : Hp), Ex H H' → (k = true ↔ t = t' ∧ b = b') → Q (.bl k) H') ∨
  (∃ i : Int, y = .int i ∧ ∀ (k : Bool) (H' : Hp), Ex H H' → (k = true ↔ b = 1 ∧ t = i) → Q (.bl k) H') ∨ (Oth H y ∧ ∀ H', Ex H H' → Q (.bl false) H'))
/-- two lists of the same ints are equal -/
theorem op_eqL {X : Cx} {n : Nat} (hr : Room (n + 1) X.A) : OpR X (compareOp .Eq) (rEqG (DList DFlat)) := op_eqG (rcG_list mon_flat eqG_flat) (hr.mono (by omega))
theorem prs_ints : ∀ {H : Hp} (ns : List Int), Prs DFlat (ns.map V.int) (ns.map V.int) H
  | _, [] => .nil
  | _, n :: ns => .cons ⟨rfl, rfl, by simp [eqV]⟩ (prs_ints ns)
end Mo
namespace Mo
theorem iteB {c : Bool} {A B : Prop} (h : c = false) (hB : B) : if c = true then A else B := by
  subst h
  exact L2.iteF hB
theorem iteA {c : Bool} {A B : Prop} (h : c = true) (hA : A) : if c = true then A else B := by
  subst h
  exact L2.iteT hA
end Mo
namespace Mo
open PySem L2
open Evl (Ex)
/-- x < y and its like: what g says of the cross products -/
def spCmp (C : Addr) (g : Int → Int → Bool) : Sp := fun vs H Q _ => ∃ (x y : V) (t b t' b' : Int), vs = [x, y] ∧ Mo C t b x H ∧ Tm C t' b' y H ∧ Sm 1900 t ∧ Sm 1900 b ∧ Sm 1900 t' ∧ Sm 1900 b' ∧ ∀ H', Ex H H' → Q (.bl (g (t * b') (t' * b))) H'
def gLt (i j : Int) : Bool := decide (i < j)
def gLe (i j : Int) : Bool := decide (i ≤ j)
def gGt (i j : Int) : Bool := decide (j < i)
def gGe (i j : Int) : Bool := decide (j ≤ i)
/-- the two sides of a comparison: a moment first, or an int and a moment -/
def Two (C : Addr) (x : V) (t b : Int) (y : V) (t' b' : Int) (H : Hp) : Prop := (Mo C t b x H ∧ Tm C t' b' y H) ∨ ((x = .int t ∧ b = 1) ∧ Mo C t' b' y H)
theorem Two.ex {C : Addr} {x y : V} {t b t' b' : Int} {H H' : Hp} (h : Two C x t b y t' b' H) (e : Ex H H') : Two C x t b y t' b' H' := h.elim (fun h => .inl ⟨h.1.ex e, h.2.ex e⟩) fun h => .inr ⟨h.1, h.2.ex e⟩
/-- s: the sign of the first less the second -/
def spCompared (C : Addr) : Sp := fun vs H Q _ => ∃ (x y : V) (t b t' b' s : Int), vs = [x, y, .int s] ∧ Two C x t b y t' b' H ∧ Red t b ∧ Red t' b' ∧ Sm 1900 t ∧ Sm 1900 b ∧ Sm 1900 t' ∧ Sm 1900 b' ∧ (s < 0 ↔ t * b' < t' * b) ∧ (s = 0 ↔ t * b' = t' * b) ∧ ∀ H', Ex H H' → Q (.bl true) H'
theorem prs_flat : ∀ {H : Hp} {xs : List V}, (∀ x ∈ xs, flatV x = true ∧ eqV x x = true) → Prs DFlat xs xs H
  | _, [], _ => .nil
  | _, x :: xs, h => .cons ⟨(h x List.mem_cons_self).1, (h x List.mem_cons_self).1, (h x List.mem_cons_self).2⟩ (prs_flat fun y hy => h y (List.mem_cons_of_mem _ hy))
theorem red_one (i : Int) : Red i 1 := ⟨by decide, by unfold Int.gcd; simp⟩
/-- what a comparison by the own method, or by the int's side, hands on -/
theorem cmp_two {C : Addr} {x y : V} {t b t' b' : Int} {H : Hp} {g g' : Int → Int → Bool} {Q : VK} (h : Two C x t b y t' b' H) (st : Sm 1900 t) (sb : Sm 1900 b) (st' : Sm 1900 t') (sb' : Sm 1900 b') (hg : ∀ i j, g' i j = g j i)
    (k : ∀ H', Ex H H' → Q (.bl (g (t * b') (t' * b))) H') : rCmp C (spCmp C g) E0 x y H Q ∨ rCmpR C (spCmp C g') E0 x y H Q := by
  rcases h with ⟨h1, h2⟩ | ⟨⟨h1, h1'⟩, h2⟩
  · exact .inl ⟨h1.isC, h2.par, x, y, t, b, t', b', rfl, h1, h2, st, sb, st', sb', k⟩
  · refine .inr ⟨⟨t, h1⟩, h2.isC, y, x, t', b', t, b, rfl, h2, .inr ⟨h1, h1'⟩, st', sb', st, sb, fun H' e => ?_⟩
    rw [hg]
    exact k H' e
theorem eq_two {C : Addr} {x y : V} {t b t' b' : Int} {H : Hp} {Q : VK} (h : Two C x t b y t' b' H) (r : Red t b) (r' : Red t' b') (k : ∀ H', Ex H H' → Q (.bl (decide (t * b' = t' * b))) H') : rCmp C (spEq2 C) E0 x y H Q ∨ rCmpR C (spEq2 C) E0 x y H Q := by
  have fin : ∀ (c : Bool) (H' : Hp), Ex H H' → (c = true ↔ t * b' = t' * b) → Q (.bl c) H' := fun c H' e hc => by
    have q : c = decide (t * b' = t' * b) := Bool.eq_iff_iff.mpr (hc.trans (decide_eq_true_iff).symm)
    rw [q]
    exact k H' e
  rcases h with ⟨h1, h2 | ⟨h2, h2'⟩⟩ | ⟨⟨h1, h1'⟩, h2⟩
  · exact .inl ⟨h1.isC, h2.par, x, y, t, b, rfl, h1, .inl ⟨t', b', h2, fun c H' e hc => fin c H' e (hc.trans (red_iff r r'))⟩⟩
  · subst h2'
    refine .inl ⟨h1.isC, by rw [h2]; exact .int _, x, y, t, b, rfl, h1, .inr (.inl ⟨t', h2, fun c H' e hc => fin c H' e (hc.trans ?_)⟩)⟩
    rw [← red_iff r r']
    exact ⟨fun z => ⟨z.2, z.1⟩, fun z => ⟨z.2, z.1⟩⟩
  · subst h1'
    refine .inr ⟨⟨t, h1⟩, h2.isC, y, x, t', b', rfl, h2, .inr (.inl ⟨t, h1, fun c H' e hc => fin c H' e (hc.trans ?_)⟩)⟩
    rw [← red_iff r r']
    exact ⟨fun z => ⟨z.2.symm, z.1.symm⟩, fun z => ⟨z.2.symm, z.1.symm⟩⟩
theorem ne_two {C : Addr} {x y : V} {t b t' b' : Int} {H : Hp} {Q : VK} (h : Two C x t b y t' b' H) (r : Red t b) (r' : Red t' b') (k : ∀ H', Ex H H' → Q (.bl (!decide (t * b' = t' * b))) H') : rNeO C (spEq2 C) E0 x y H Q ∨ rNeOR C (spEq2 C) E0 x y H Q := by
  rcases eq_two (Q := fun v H' => ∃ c, v = .bl c ∧ Q (.bl (!c)) H') h r r' (fun H' e => ⟨_, rfl, k H' e⟩) with z | z
  · exact .inl z
  · exact .inr z
end Mo
namespace Mo
open PySem L2
open Evl (Ex)
/-- a value that is no list and no dict -/
inductive Plain (K : PySem.W.Frag) (H : Hp) : V → Prop where
  | int (i : Int) : Plain K H (.int i)
  | str (z : Str) : Plain K H (.str z)
  | ins {C a dx : Addr} {fs : List (Str × V)} (e : H a = some (.ins C dx fs)) (ty : ∀ {H' : Hp} {fs : List (Str × V)}, H' a = some (.ins C dx fs) → TyX K H' (.ref a) (.ref C))
      (l : PySem.W.kitOne K (.ref C) (.type "list") = some false) (d : PySem.W.kitOne K (.ref C) (.type "dict") = some false) : Plain K H (.ref a)
theorem Plain.ty {K : PySem.W.Frag} {H : Hp} {x : V} (h : Plain K H x) : ∃ t, TyX K H x t ∧ PySem.W.kitOne K t (.type "list") = some false ∧ PySem.W.kitOne K t (.type "dict") = some false := by
  cases h with
  | int i => exact ⟨_, .base (.int _), kit_ty (by decide +kernel), kit_ty (by decide +kernel)⟩
  | str z => exact ⟨_, .base (.str _), kit_ty (by decide +kernel), kit_ty (by decide +kernel)⟩
  | ins e ty l d => exact ⟨_, ty e, l, d⟩
theorem Plain.keep {K : PySem.W.Frag} {H H' : Hp} {x : V} (h : Plain K H x) (k : ∀ (q C dx : Addr) (fs : List (Str × V)), H q = some (.ins C dx fs) → H' q = some (.ins C dx fs)) : Plain K H' x := by
  cases h with
  | int i => exact .int i
  | str z => exact .str z
  | ins e ty l d => exact .ins (k _ _ _ _ e) ty l d
theorem Plain.ex {K : PySem.W.Frag} {H H' : Hp} {x : V} (h : Plain K H x) (e : Ex H H') : Plain K H' x := h.keep fun _ _ _ _ q => e _ _ q
/-- _kept(x) -/
def spKept (K : PySem.W.Frag) : Sp := fun vs H Q _ => ∃ x, vs = [x] ∧ Plain K H x ∧ Q x H
/-- what a store into an error leaves of the instances -/
theorem ins_st {H : Hp} {a dx C' : Addr} {u v : HO} (ha : H a = some (exo a C' none)) (hd : H dx = none) : ∀ (q C dx' : Addr) (fs : List (Str × V)), H q = some (.ins C dx' fs) → upd (upd H dx u) a v q = some (.ins C dx' fs) := fun q C d fs e => by
  rw [upd_ne (ne_of e ha (by intro z; cases z)), upd_ne (ne_of_none e hd)]
  exact e
end Mo

namespace Mo
open PySem PySem.W PySem.Calls PyProof.Rows
section
variable {prog : Program} {w : World} {A : Around} {E : Value → Shared → Prop} {s : Shared} {K : Frag} {x C f : Addr} {ox : Obj} {od : Option Obj}
/-- abs(x) by the class's own method -/
theorem abs_K {Q : Value → Shared → Prop} (X : K.In s.heap) (I : InstAt s.heap x ox C od) (hs : findIn K (.ref C) "__abs__" = some (some (.ref f))) (hf : isFn K (.ref f) = true)
    (h : wpAny (model prog w) A.in1 (call (.ref f) [.ref x]) Q E s) : wpAny (model prog w) A (call (.builtin "abs") [.ref x]) Q E s := by
  refine Calls.call_function_entry kind_abs plain_abs entry_abs (args_abs _) ?_
  unfold Builtin.«abs»
  refine wpAny_bind (m := oneArg "abs" _) (wpAny_pure ?_)
  refine wpAny_bind (m := callSpecial? (.ref x) (Str.ofString "__abs__")) (special_fn X I hs (beq_iff_eq.mp hf) (wpAny_mono h (fun v s' q => ?_) fun _ _ z => z))
  exact wpAny_pure ⟨v, rfl, q⟩
theorem truth_K {M : Model} {Q : Bool → Shared → Prop} (X : K.In s.heap) (I : InstAt s.heap x ox C od) (hs : findIn K (.ref C) "__bool__" = some (some (.ref f))) (hf : isFn K (.ref f) = true)
    (h : wpAny M A (call (.ref f) [.ref x]) (fun v s' => ∃ b, v = .bool b ∧ Q b s') E s) : wpAny M A (truthy (.ref x)) Q E s := by
  unfold truthy
  refine wpAny_bind (m := callSpecial? (.ref x) (Str.ofString "__bool__")) (special_fn X I hs (beq_iff_eq.mp hf) (wpAny_mono h (fun r s' hr => ?_) fun _ _ y => y))
  obtain ⟨b, rfl, q⟩ := hr
  exact wpAny_pure q
/-- bool(x) by the class's own method -/
theorem bool_K {Q : Value → Shared → Prop} (X : K.In s.heap) (I : InstAt s.heap x ox C od) (hs : findIn K (.ref C) "__bool__" = some (some (.ref f))) (hf : isFn K (.ref f) = true)
    (h : wpAny (model prog w) A.in1.in1 (call (.ref f) [.ref x]) (fun v s' => ∃ b, v = .bool b ∧ Q (.bool b) s') E s) : wpAny (model prog w) A (call (.type "bool") [.ref x]) Q E s := by
  refine callType_newIn (S := fun A R s => K.In s.heap ∧ InstAt s.heap x ox C od ∧ wpAny (model prog w) A.in1 (call (.ref f) [.ref x]) (fun v s' => ∃ b, v = .bool b ∧ R (.ok (.ret (.bool b))) s') (fun e s' => R (.error e) s') s) F.called_bool F.newNe_bool (F.typeCall_bool_1 _) (F.newCall_bool_1 _) (fun obj => F.args_object_init_2 obj _) F.entry_bool_new (fun A R s ⟨X, I, h⟩ => ?_) ⟨X, I, wpAny_mono h (fun v s' ⟨b, e, q⟩ => ⟨b, e, rfl, q⟩) fun _ _ z => z⟩
  have f1 := F.conv_sub_bool
  have tr : wpAny (model prog w) A.in1 (truthy (.ref x)) (fun b s' => R (.ok (.ret (.bool b))) s') (fun e s' => R (.error e) s') s := truth_K X I hs hf h
  obtain ⟨hp, g, d, tk, os⟩ := s
  unfold Builtin.«bool.__new__»
  repeat (any_goals (first | assumption | (refine wpAny_bind (m := truthy (.ref x)) (wpAny_mono tr (fun b s' q => ?_) fun _ _ z => z)) | wp_step))
  all_goals first | exact q | exact wpAny_pure q | skip
end
open L2
section
variable {X : Cx} {CX : CXT} {n k : Nat} {f C : Addr} {fd : FuncData} {ps : List Str} {sp : Sp} {E : XK}
/-- a method run wherever the frames are ours -/
theorem run_any {A : Around} (F : FnOk X.prog X.w X.K X.mg X.base CX n f fd ps sp) (hr : Room n A) (fr : A.frames = X.A.frames) (hb : Binds X.K fd ps []) (hx : Passes CX X E) {pins : List (Addr × Obj)} {s : Shared} {σ : L2.St} {H : Hp} {xs : List V} {us : List Value} {Q : VK}
    (I : Inv X pins σ H s) (r : Vals xs us) (h : sp xs H Q E) : wpAny (model X.prog X.w) A (call (.ref f) us) (EP X pins σ Q) X.xe s := by
  have e0 : Env0 X.prog X.w X.K X.mg X.base A X.stack s H := ⟨by rw [fr]; exact I.env0.frames, I.env0.mod, I.env0.bs, I.env0.bsz, I.env0.funs, I.env0.frf, I.env0.hok, I.env0.bare⟩
  have hl : us.length = ps.length := by rw [← r.length]; exact F.len _ _ _ _ h
  have bb := hb s us I.kIn (by rw [List.append_nil]; exact hl)
  rw [List.append_nil] at bb
  refine wpAny_call (codeAny_mono (F.run A X.stack s H ⟨us, []⟩ us xs _ E hr e0 bb r h) fun res s' q => ?_)
  cases res with
  | error e => exact hx pins σ H s e s' I q
  | ok fl => cases fl with
    | ret u => exact I.after q
    | next => exact q.elim
    | brk => exact q.elim
    | cont => exact q.elim
def rOne (C : Addr) (sp : Sp) (E : XK) : V → Hp → VK → Prop := fun x H Q => IsC C x H ∧ sp [x] H Q E
theorem v1r (a : Addr) : Vals [V.ref a] [Value.ref a] := .cons rfl .nil
theorem un_own (hs : PySem.W.findIn X.K (.ref C) "__neg__" = some (some (.ref f))) (hf : PySem.W.isFn X.K (.ref f) = true) (F : FnOk X.prog X.w X.K X.mg X.base CX n f fd ps sp) (hr : Room n X.A) (hb : Binds X.K fd ps []) (hx : Passes CX X E) : UnR X (unaryOp .USub) (rOne C sp E) := by
  intro pins s σ H x v Q I rx h
  obtain ⟨⟨a, dx, fs, rfl, ha⟩, q⟩ := h
  cases rx
  obtain ⟨mA, J, _⟩ := ins_get I.hok ha
  obtain ⟨od, J, _⟩ := J.look
  obtain ⟨m, hF⟩ := I.fr
  exact PySem.W.ksp_neg hF I.ok.mod.kin J hs hf (run_any F hr rfl hb hx I (v1r a) q)
def rOneA (C : Addr) (sp : Sp) (E : XK) : List V → Hp → VK → Prop := fun vs H Q => ∃ x, vs = [x] ∧ IsC C x H ∧ sp [x] H Q E
theorem abs_own (hs : PySem.W.findIn X.K (.ref C) "__abs__" = some (some (.ref f))) (hf : PySem.W.isFn X.K (.ref f) = true) (F : FnOk X.prog X.w X.K X.mg X.base CX n f fd ps sp) (hr : Room (n + 1) X.A) (hb : Binds X.K fd ps []) (hx : Passes CX X E) : CallR X (.builtin "abs") (rOneA C sp E) := by
  intro pins s σ H vs us Q I r h
  obtain ⟨x, rfl, ⟨a, dx, fs, rfl, ha⟩, q⟩ := h
  obtain ⟨u, rfl, ru⟩ := vals1 r
  cases ru
  obtain ⟨mA, J, _⟩ := ins_get I.hok ha
  obtain ⟨od, J, _⟩ := J.look
  exact abs_K I.kIn J hs hf (run_any F hr.in1 rfl hb hx I (v1r a) q)
/-- bool(x) -/
def rBoolA (C : Addr) (sp : Sp) (E : XK) : List V → Hp → VK → Prop := fun vs H Q => ∃ x, vs = [x] ∧ IsC C x H ∧ sp [x] H (fun v H' => ∃ k, v = .bl k ∧ Q (.bl k) H') E
theorem bool_own (hs : PySem.W.findIn X.K (.ref C) "__bool__" = some (some (.ref f))) (hf : PySem.W.isFn X.K (.ref f) = true) (F : FnOk X.prog X.w X.K X.mg X.base CX n f fd ps sp) (hr : Room (n + 2) X.A) (hb : Binds X.K fd ps []) (hx : Passes CX X E) : CallR X (.type "bool") (rBoolA C sp E) := by
  intro pins s σ H vs us Q I r h
  obtain ⟨x, rfl, ⟨a, dx, fs, rfl, ha⟩, q⟩ := h
  obtain ⟨u, rfl, ru⟩ := vals1 r
  cases ru
  obtain ⟨mA, J, _⟩ := ins_get I.hok ha
  obtain ⟨od, J, _⟩ := J.look
  have z := run_any (Q := fun v H' => ∃ k, v = .bl k ∧ Q (.bl k) H') F hr.in1.in1 rfl hb hx I (v1r a) q
  refine bool_K I.kIn J hs hf (wpAny_mono z (fun v s' y => ?_) fun _ _ e => e)
  obtain ⟨v', H', I', ry, k, rfl, q'⟩ := y
  cases ry
  exact ⟨k, rfl, .bl k, H', I', rfl, q'⟩
end
section
variable {X : Cx} {CX : CXT} {k : Nat} {f C : Addr} {fd : FuncData} {ps : List Str} {sp : Sp} {E : L2.St → XK} {x m : Str} {p pos apos : Pos} {e o : Expr} {es : List Expr} {ta : TE} {t : TA}
/-- o.m(e, ..) in a try -/
def tMethS (C : Addr) (m : Str) (sp : Sp) (E : L2.St → XK) (ta : TE) (t : TA) : TE := fun σ H Q => ta σ H fun x H1 => ∃ a dx fs, x = .ref a ∧ H1 a = some (.ins C dx fs) ∧ fs.lookup m = none ∧ t σ H1 fun vs H2 => sp (x :: vs) H2 Q (E σ)
theorem pe_methS {pl : Sem Bool} (he : PE X o ta) (c : Cls X.K C) (hm : Meth X.K C m f) (F : FnOk X.prog X.w X.K X.mg X.base CX k f fd ps sp) (hr : Room k X.A) (hb : Binds X.K fd ps []) (hx : ∀ σ, PassesAt CX X σ (E σ)) (ha : PA X (e :: es) t)
    (hst : starEach (e :: es) X.env = (false, eval e X.env) :: starEach es X.env := by rfl) (hpl : (backTo pos (starEach es X.env)).any (·.1) = false := by rfl)
    (ht : eval (.Call (.Attribute o m apos) (e :: es) [] pos) X.env = (do
      let ov ← eval o X.env
      standAt apos.atName
      let (f, first) ← holding [ov] (getMethod ov m pl)
      callWith pos f first (backTo pos (starEach (e :: es) X.env)) (backToKw pos (keywordEach [] X.env))) := by rfl) :
    PE X (.Call (.Attribute o m apos) (e :: es) [] pos) (tMethS C m sp E ta t) := by
  refine ⟨fun pins s σ H Q I h => PySem.W.methodCall_KW (pl := pl) (thn (he.run pins s σ H _ I h) fun u s1 ⟨x, H1, I1, rx, a, dx, fs, ex, ea, l, q⟩ => ?_) ht⟩
  subst ex
  obtain rfl : u = Value.ref a := rx
  refine getmeth_ok I1 ea c hm l ?_
  exact PySem.W.callWith_K (first := [.ref a]) (h₀ := X.base) I.ok.mod.kin hm.kp (thn (ha.run pos pins s1 σ H1 _ I1 q) fun us s2 ⟨vs, H2, I2, r, q2⟩ => ⟨I2.kIn, run_fnS F hr hb (hx σ) I2 (us := .ref a :: us) (vs := .ref a :: vs) (.cons rfl r) q2⟩) hst hpl
end
theorem io_pow : IntOp .Pow := ⟨some (.builtin "int.__pow__"), some (.builtin "int.__rpow__"), fun K => (show PySem.fastLookup "int" (PySem.dunder "pow") = _ by decide +kernel), fun K => (show PySem.fastLookup "int" (PySem.dunderR "pow") = _ by decide +kernel)⟩
theorem exm_ZD {K : PySem.W.Frag} : PySem.W.exmOne K (.type "ZeroDivisionError") (.type "ZeroDivisionError") = some true := by kernel_rfl
/-- i // j where j may be 0, in a def or a try that takes the error -/
def tFdivX (W : WX) (ta tb : TE) : TE := fun σ H Q => ta σ H fun x H1 => tb σ H1 fun y H2 => ∃ i j, x = .int i ∧ y = .int j ∧ ((CDivNW i j ∧ Q (.int (i.fdiv j)) H2) ∨ (j = 0 ∧ ∀ d, W (.type "ZeroDivisionError") d σ H2))
theorem pe_fdivX {X : Cx} {W : WX} {a b : Expr} {ta tb : TE} {pos : Pos} (hc : X.calm = true) (tk : Takes X W) (ha : PE X a ta) (hb : PE X b tb) : PE X (.BinOp a .FloorDiv b pos) (tFdivX W ta tb) := by
  refine ⟨fun pins s σ H Q I h => wpAny_BinOp (binT ha hb I h fun v u s2 x y H2 I2 rx ry q => ?_)⟩
  obtain ⟨i, j, rfl, rfl, q⟩ := q
  rcases q with ⟨hd, q⟩ | ⟨rfl, q⟩
  · exact op_fdivNW pins s2 σ H2 _ _ _ _ Q I2 rx ry ⟨i, j, rfl, rfl, hd, q⟩
  · obtain ⟨t, rfl⟩ := rx
    obtain ⟨t', rfl⟩ := ry
    exact PySem.AutoIntOps.floordiv_0 rfl ⟨I2.ok.hd hc, fun h' tk' e hx => takes_new (t' := tk') tk I2 hx q⟩
end Mo
namespace Mo
open PySem L2
open Evl (Ex)
/-- x.over(y) -/
def spOver (C : Addr) : Sp := fun vs H Q E => ∃ (x y : V) (t b t' b' : Int), vs = [x, y] ∧ Mo C t b x H ∧ Tm C t' b' y H ∧ 0 < b ∧ Sm 1900 t ∧ Sm 1900 b ∧ Sm 1900 t' ∧ Sm 1900 b' ∧ (t' = 0 → ∀ d H', Ex H H' → E (.type "ZeroDivisionError") d H') ∧
  (t' ≠ 0 → ∀ (t2 b2 : Int) (v : V) (H' : Hp), Norm (t * b') (b * t') t2 b2 → Ex H H' → Mo C t2 b2 v H' → Q v H')
def spPow (C : Addr) : Sp := fun vs H Q _ => ∃ (x : V) (t b n : Int), vs = [x, .int n] ∧ Mo C t b x H ∧ 0 < b ∧ 0 ≤ n ∧ n ≤ 100 ∧ (∀ i : Nat, i ≤ n.toNat → Sm 3900 (t ^ i) ∧ Sm 3900 (b ^ i)) ∧ Sm 1900 t ∧ Sm 1900 b ∧
  ∀ (t2 b2 : Int) (v : V) (H' : Hp), Norm (t ^ n.toNat) (b ^ n.toNat) t2 b2 → Ex H H' → Mo C t2 b2 v H' → Q v H'
def spNeg (C : Addr) : Sp := fun vs H Q _ => ∃ (x : V) (t b : Int), vs = [x] ∧ Mo C t b x H ∧ 0 < b ∧ Sm 1900 t ∧ Sm 1900 b ∧ ∀ (t2 b2 : Int) (v : V) (H' : Hp), Norm (-t) b t2 b2 → Ex H H' → Mo C t2 b2 v H' → Q v H'
def spAbs (C : Addr) : Sp := fun vs H Q _ => ∃ (x : V) (t b : Int), vs = [x] ∧ Mo C t b x H ∧ 0 < b ∧ Sm 1900 t ∧ Sm 1900 b ∧ ∀ (t2 b2 : Int) (v : V) (H' : Hp), Norm (if t < 0 then -t else t) b t2 b2 → Ex H H' → Mo C t2 b2 v H' → Q v H'
def spBool (C : Addr) : Sp := fun vs H Q _ => ∃ (x : V) (t b : Int), vs = [x] ∧ Mo C t b x H ∧ Q (.bl (t != 0)) H
def spPower : Sp := fun vs H Q _ => ∃ (t n : Int), vs = [.int t, .int n] ∧ 0 ≤ n ∧ n ≤ 100 ∧ Sm 1900 t ∧ (∀ i : Nat, i ≤ n.toNat → Sm 3900 (t ^ i)) ∧ Q (.int (t ^ n.toNat)) H
def spQuot (C : Addr) : Sp := fun vs H Q _ => ∃ (x y : V) (t b n d t' b' n' d' : Int), vs = [x, y, .int n, .int d, .int n', .int d'] ∧ Mo C t b x H ∧ Tm C t' b' y H ∧ t * d = n * b ∧ t' * d' = n' * b' ∧ 0 < b ∧ 0 < b' ∧ d' ≠ 0 ∧
  Sm 1900 t ∧ Sm 1900 b ∧ Sm 1900 t' ∧ Sm 1900 b' ∧ Sm 1900 n ∧ Sm 1900 d ∧ Sm 1900 n' ∧ Sm 1900 d' ∧ ∀ H', Ex H H' → Q (.bl true) H'
theorem sm_pow {k : Nat} {t : Int} (h : Sm k t) (n : Nat) : Sm (k * n + 1) (t ^ n) := by
  unfold Sm at *
  rw [Int.natAbs_pow, Nat.pow_succ]
  have h1 : t.natAbs ^ n ≤ (2 ^ k) ^ n := Nat.pow_le_pow_left (Nat.le_of_lt h) n
  rw [← Nat.pow_mul] at h1
  have h2 : 0 < 2 ^ (k * n) := Nat.pow_pos (by decide)
  omega
theorem sm_pows {k : Nat} {t : Int} {n : Int} (h : Sm k t) (hn : k * n.toNat ≤ 3899) : ∀ i : Nat, i ≤ n.toNat → Sm 3900 (t ^ i) := fun i hi => (sm_pow h i).mono (by have := Nat.mul_le_mul_left k hi; omega)
theorem over_eq {t b n d t' b' n' d' t2 b2 : Int} (N : Norm (t * b') (b * t') t2 b2) (h1 : t * d = n * b) (h2 : t' * d' = n' * b') (p1 : 0 < b) (p2 : 0 < b') : t2 * (d * n') = (n * d') * b2 := by
  have h := N.eq
  exact Int.eq_of_mul_eq_mul_left (Int.ne_of_gt (Int.mul_pos p1 p2)) (by grind)
theorem pow_eq {t b n d t2 b2 : Int} {m : Nat} (N : Norm (t ^ m) (b ^ m) t2 b2) (h1 : t * d = n * b) (p1 : 0 < b) : t2 * d ^ m = n ^ m * b2 := by
  have h := N.eq
  have e : t ^ m * d ^ m = n ^ m * b ^ m := by rw [← Int.mul_pow, ← Int.mul_pow, h1]
  generalize t ^ m = tm at *
  generalize d ^ m = dm at *
  generalize n ^ m = nm at *
  have p2 : 0 < b ^ m := Int.pow_pos p1
  generalize b ^ m = bm at *
  exact Int.eq_of_mul_eq_mul_left (Int.ne_of_gt p2) (by grind)
theorem neg_eq' {t b n d t2 b2 : Int} (N : Norm (-t) b t2 b2) (h1 : t * d = n * b) (p1 : 0 < b) : t2 * d = (-n) * b2 := by
  have h := N.eq
  exact Int.eq_of_mul_eq_mul_left (Int.ne_of_gt p1) (by grind)
theorem abs_eq' {t b n d t2 b2 s : Int} (N : Norm (if t < 0 then -t else t) b t2 b2) (h1 : t * d = n * b) (p1 : 0 < b) (hd : d ≠ 0) (hs : (n * d < 0 → s = -1) ∧ (¬ n * d < 0 → s = 1)) : t2 * d = (s * n) * b2 := by
  have h := N.eq
  have e : (t * (d * d)) = (n * d) * b := by grind
  have q : 0 < d * d := by
    rcases Int.lt_or_gt_of_ne hd with h | h
    · exact Int.mul_pos_of_neg_of_neg h h
    · exact Int.mul_pos h h
  by_cases ht : t < 0
  · have a : n * d < 0 := by
      have z : t * (d * d) < 0 := Int.mul_neg_of_neg_of_pos ht q
      rw [e] at z
      by_cases y : n * d < 0
      · exact y
      · have := Int.mul_nonneg (show 0 ≤ n * d by omega) (Int.le_of_lt p1)
        omega
    rw [if_pos ht] at h
    rw [hs.1 a]
    exact Int.eq_of_mul_eq_mul_left (Int.ne_of_gt p1) (by grind)
  · have a : ¬ n * d < 0 := fun y => by
      have z : (n * d) * b < 0 := Int.mul_neg_of_neg_of_pos y p1
      rw [← e] at z
      have := Int.mul_nonneg (show 0 ≤ t by omega) (Int.le_of_lt q)
      omega
    rw [if_neg ht] at h
    rw [hs.2 a]
    exact Int.eq_of_mul_eq_mul_left (Int.ne_of_gt p1) (by grind)
theorem zero_iff {t b n d : Int} (h1 : t * d = n * b) (p1 : 0 < b) (hd : d ≠ 0) : t = 0 ↔ n = 0 := by
  constructor <;> intro z
  · rw [z, Int.zero_mul] at h1
    exact (Int.mul_eq_zero.mp h1.symm).resolve_right (by omega)
  · rw [z, Int.zero_mul] at h1
    exact (Int.mul_eq_zero.mp h1).resolve_right hd
/-- a pair (x ** nn, nn) -/
def PowAt (C : Addr) (t b : Int) (x : V) (H : Hp) : Prop := ∃ (tp : Addr) (m : V) (nn t2 b2 : Int), x = .ref tp ∧ H tp = some (.tup [m, .int nn]) ∧ Mo C t2 b2 m H ∧ Norm (t ^ nn.toNat) (b ^ nn.toNat) t2 b2 ∧ 0 ≤ nn ∧ nn ≤ 60
theorem PowAt.ex {C : Addr} {t b : Int} {x : V} {H H' : Hp} (h : PowAt C t b x H) (e : Ex H H') : PowAt C t b x H' := by
  obtain ⟨tp, m, nn, t2, b2, e1, e2, e3, e4, e5, e6⟩ := h
  exact ⟨tp, m, nn, t2, b2, e1, e _ _ e2, e3.ex e, e4, e5, e6⟩
end Mo

namespace Mo
open PySem L2
open Evl (Ex)
section
variable {X : Cx} {CX : CXT} {n k : Nat} {f g C : Addr} {fd gd : FuncData} {ps qs : List Str} {sp spR : Sp} {E : XK} {a b : Expr} {ta tb : TE} {pos : Pos}
theorem run_opS (F : FnOk X.prog X.w X.K X.mg X.base CX n f fd ps sp) (hr : Room n X.A) (hb : Binds X.K fd ps []) {σ : L2.St} (hx : PassesAt CX X σ E) {pins : List (Addr × Obj)} {s : Shared} {H : Hp} {xs : List V} {us : List Value} {Q : VK}
    (I : Inv X pins σ H s) (r : Vals xs us) (h : sp xs H Q E) : wpAny (model X.prog X.w) X.A (call (.ref f) us) (PySem.W.CmpBack (EP X pins σ Q)) X.xe s :=
  wpAny_mono (run_fnS (E := fun _ => E) F hr hb hx I r h) (fun v s' z => cmpBack_of z) fun _ _ e => e
theorem own_at {op : Operator} (T : Opc X.K C) (IO : IntOp op) (O : Op2 X.K C op.info.2 f) (F : FnOk X.prog X.w X.K X.mg X.base CX n f fd ps sp) (hr : Room n X.A) (hb : Binds X.K fd ps []) {σ : L2.St} (hx : PassesAt CX X σ E)
    {pins : List (Addr × Obj)} {s : Shared} {H : Hp} {x y : V} {v u : Value} {Q : VK} (I : Inv X pins σ H s) (rx : RelV x v) (ry : RelV y u) (h : rOwn C sp E x y H Q) : wpAny (model X.prog X.w) X.A (binaryOp op v u) (EP X pins σ Q) X.xe s := by
  obtain ⟨⟨a, dx, fs, rfl, ha⟩, hy, q⟩ := h
  cases rx
  obtain ⟨mA, J, _⟩ := ins_get I.hok ha
  obtain ⟨od, J, _⟩ := J.look
  obtain ⟨m, hF⟩ := I.fr
  rcases hy with ⟨b, dy, gs, rfl, hb'⟩ | ⟨i, rfl⟩
  · cases ry
    obtain ⟨mB, J', _⟩ := ins_get I.hok hb'
    obtain ⟨od', J', _⟩ := J'.look
    exact PySem.W.binop_K hF I.ok.mod.kin J J'.type T.sf O.at_ O.fn (run_opS F hr hb hx I (v2rr _ _) q)
  · obtain ⟨t, rfl⟩ := ry
    obtain ⟨fo, ro, e1, e2⟩ := IO.fo
    obtain ⟨g, e3⟩ := O.rr
    obtain ⟨rc, e4, e5⟩ : ∃ rc, PySem.W.findIn X.K (.ref C) (PySem.dunderR op.info.2) = some rc ∧ (rc = none ∨ ∃ g : Addr, rc = some (.ref g)) := by
      rcases e3 with e3 | e3
      · exact ⟨_, e3, .inl rfl⟩
      · exact ⟨_, e3, .inr ⟨g, rfl⟩⟩
    exact PySem.W.ksp_binT (T := "int") hF I.ok.mod.kin J rfl T.sf O.at_ O.fn e4 e5 (e1 _) (e2 _) nf_int (run_opS F hr hb hx I (v2ri _ _ _) q)
theorem ownR_at {op : Operator} (T : Opc X.K C) (IO : IntOpR op) (O : OpR2 X.K C op.info.2 f) (F : FnOk X.prog X.w X.K X.mg X.base CX n f fd ps sp) (hr : Room n X.A) (hb : Binds X.K fd ps []) {σ : L2.St} (hx : PassesAt CX X σ E)
    {pins : List (Addr × Obj)} {s : Shared} {H : Hp} {x y : V} {v u : Value} {Q : VK} (I : Inv X pins σ H s) (rx : RelV x v) (ry : RelV y u) (h : rOwnR C sp E x y H Q) : wpAny (model X.prog X.w) X.A (binaryOp op v u) (EP X pins σ Q) X.xe s := by
  obtain ⟨⟨i, rfl⟩, ⟨a, dx, fs, rfl, ha⟩, q⟩ := h
  cases ry
  obtain ⟨t, rfl⟩ := rx
  obtain ⟨mA, J, _⟩ := ins_get I.hok ha
  obtain ⟨od, J, _⟩ := J.look
  obtain ⟨m, hF⟩ := I.fr
  obtain ⟨g, g1, g2⟩ := O.ll
  obtain ⟨id, B, s1, s2, s3, s4⟩ := IO.sl
  exact binR_K hF I.ok.mod.kin J rfl T.sf g1 g2 O.at_ O.fn T.nInt s1 IO.fills s2 (s3 _ _ _) s4 (run_opS F hr hb hx I (v2ri _ _ _) q)
/-- a op b in a try, by the left one's method or by the right one's -/
def tTwoS (C : Addr) (sp spR : Sp) (E : L2.St → XK) (ta tb : TE) : TE := fun σ H Q => ta σ H fun x H1 => tb σ H1 fun y H2 => rOwn C sp (E σ) x y H2 Q ∨ rOwnR C spR (E σ) x y H2 Q
theorem pe_twoS {op : Operator} {E : L2.St → XK} (ha : PE X a ta) (hb : PE X b tb) (T : Opc X.K C) (IO : IntOp op) (O : Op2 X.K C op.info.2 f) (F : FnOk X.prog X.w X.K X.mg X.base CX n f fd ps sp) (hr : Room n X.A) (bd : Binds X.K fd ps [])
    (IR : IntOpR op) (OR : OpR2 X.K C op.info.2 g) (G : FnOk X.prog X.w X.K X.mg X.base CX k g gd qs spR) (hr2 : Room k X.A) (bg : Binds X.K gd qs []) (hx : ∀ σ, PassesAt CX X σ (E σ)) : PE X (.BinOp a op b pos) (tTwoS C sp spR E ta tb) := by
  refine ⟨fun pins s σ H Q I h => wpAny_BinOp (binT ha hb I h fun v u s2 x y H2 I2 rx ry q => ?_)⟩
  rcases q with q | q
  · exact own_at T IO O F hr bd (hx σ) I2 rx ry q
  · exact ownR_at T IR OR G hr2 bg (hx σ) I2 rx ry q
end
def ZDs (E : XK) (H : Hp) : Prop := ∀ (d : Option Addr) (H' : Hp), Ex H H' → E (.type "ZeroDivisionError") d H'
def spFloor (C : Addr) : Sp := fun vs H Q E => ∃ (x y : V) (t b t' b' : Int), vs = [x, y] ∧ Mo C t b x H ∧ Tm C t' b' y H ∧ 0 < b ∧ 0 < b' ∧ Sm 1900 t ∧ Sm 1900 b ∧ Sm 1900 t' ∧ Sm 1900 b' ∧ (t' = 0 → ZDs E H) ∧
  (t' ≠ 0 → ∀ H' : Hp, Ex H H' → Q (.int ((t * b').fdiv (b * t'))) H')
def spFloorR (C : Addr) : Sp := fun vs H Q E => ∃ (x y : V) (t b t' b' : Int), vs = [x, y] ∧ Mo C t b x H ∧ Tm C t' b' y H ∧ 0 < b ∧ 0 < b' ∧ Sm 1900 t ∧ Sm 1900 b ∧ Sm 1900 t' ∧ Sm 1900 b' ∧ (t = 0 → ZDs E H) ∧
  (t ≠ 0 → ∀ H' : Hp, Ex H H' → Q (.int ((t' * b).fdiv (b' * t))) H')
/-- what the rest of t/b by t'/b' is -/
def Rest (C : Addr) (t b t' b' : Int) (H : Hp) (Q : VK) : Prop := ∀ (t2 b2 : Int) (v : V) (H' : Hp), Red t2 b2 → t2 * (b * b') = (t * b' - (t * b').fdiv (b * t') * t' * b) * b2 → Sm 4000 t2 → Sm 4000 b2 → Ex H H' → Mo C t2 b2 v H' → Q v H'
def spMod (C : Addr) : Sp := fun vs H Q E => ∃ (x y : V) (t b t' b' : Int), vs = [x, y] ∧ Mo C t b x H ∧ Tm C t' b' y H ∧ 0 < b ∧ 0 < b' ∧ Sm 400 t ∧ Sm 400 b ∧ Sm 400 t' ∧ Sm 400 b' ∧ (t' = 0 → ZDs E H) ∧ (t' ≠ 0 → Rest C t b t' b' H Q)
def spModR (C : Addr) : Sp := fun vs H Q E => ∃ (x y : V) (t b t' b' : Int), vs = [x, y] ∧ Mo C t b x H ∧ Tm C t' b' y H ∧ 0 < b ∧ 0 < b' ∧ Sm 400 t ∧ Sm 400 b ∧ Sm 400 t' ∧ Sm 400 b' ∧ (t = 0 → ZDs E H) ∧ (t ≠ 0 → Rest C t' b' t b H Q)
def spDiv (C : Addr) : Sp := fun vs H Q _ => ∃ (x y : V) (t b n d t' b' n' d' : Int), vs = [x, y, .int n, .int d, .int n', .int d'] ∧ Two C x t b y t' b' H ∧ t * d = n * b ∧ t' * d' = n' * b' ∧ 0 < b ∧ 0 < b' ∧ d ≠ 0 ∧ d' ≠ 0 ∧
  Sm 400 t ∧ Sm 400 b ∧ Sm 400 t' ∧ Sm 400 b' ∧ Sm 400 n ∧ Sm 400 d ∧ Sm 400 n' ∧ Sm 400 d' ∧ ∀ H', Ex H H' → Q (.bl true) H'
theorem Tm.opx {C : Addr} {t b : Int} {v : V} {H : Hp} (h : Tm C t b v H) : IsC C v H ∨ ∃ i, v = .int i := h.op
theorem floor_two {C : Addr} {E : XK} {x y : V} {t b t' b' : Int} {H : Hp} {Q : VK} (h : Two C x t b y t' b' H) (p1 : 0 < b) (p2 : 0 < b') (st : Sm 1900 t) (sb : Sm 1900 b) (st' : Sm 1900 t') (sb' : Sm 1900 b') (kE : t' = 0 → ZDs E H)
    (kQ : t' ≠ 0 → ∀ H' : Hp, Ex H H' → Q (.int ((t * b').fdiv (b * t'))) H') : rOwn C (spFloor C) E x y H Q ∨ rOwnR C (spFloorR C) E x y H Q := by
  rcases h with ⟨h1, h2⟩ | ⟨⟨h1, h1'⟩, h2⟩
  · exact .inl ⟨h1.isC, h2.op, x, y, t, b, t', b', rfl, h1, h2, p1, p2, st, sb, st', sb', kE, kQ⟩
  · exact .inr ⟨⟨t, h1⟩, h2.isC, y, x, t', b', t, b, rfl, h2, .inr ⟨h1, h1'⟩, p2, p1, st', sb', st, sb, kE, kQ⟩
theorem mod_two {C : Addr} {E : XK} {x y : V} {t b t' b' : Int} {H : Hp} {Q : VK} (h : Two C x t b y t' b' H) (p1 : 0 < b) (p2 : 0 < b') (st : Sm 400 t) (sb : Sm 400 b) (st' : Sm 400 t') (sb' : Sm 400 b') (kE : t' = 0 → ZDs E H)
    (kQ : t' ≠ 0 → Rest C t b t' b' H Q) : rOwn C (spMod C) E x y H Q ∨ rOwnR C (spModR C) E x y H Q := by
  rcases h with ⟨h1, h2⟩ | ⟨⟨h1, h1'⟩, h2⟩
  · exact .inl ⟨h1.isC, h2.op, x, y, t, b, t', b', rfl, h1, h2, p1, p2, st, sb, st', sb', kE, kQ⟩
  · exact .inr ⟨⟨t, h1⟩, h2.isC, y, x, t', b', t, b, rfl, h2, .inr ⟨h1, h1'⟩, p2, p1, st', sb', st, sb, kE, kQ⟩
/-! the numbers -/
theorem mod_eqM {t b t' b' q t3 b3 t2 b2 : Int} (N1 : Norm (nMul t' b' q 1) (dAll t' b' q 1) t3 b3) (N2 : Norm (nSub t b t3 b3) (dAll t b t3 b3) t2 b2) : t2 * (b * b') = (t * b' - q * t' * b) * b2 := by
  have h1 : t3 * (b' * 1) = (t' * q) * b3 := N1.eq
  have h2 : t2 * (b * b3) = (t * b3 - t3 * b) * b2 := N2.eq
  have p := N1.pos
  exact Int.eq_of_mul_eq_mul_left (Int.ne_of_gt p) (by grind)
theorem mod_eqI {t b t' q t2 b2 : Int} (N2 : Norm (nSub t b (t' * q) 1) (dAll t b (t' * q) 1) t2 b2) : t2 * (b * 1) = (t * 1 - q * t' * b) * b2 := by
  have h2 : t2 * (b * 1) = (t * 1 - (t' * q) * b) * b2 := N2.eq
  grind
theorem floor_same {t b n d t' b' n' d' : Int} (h1 : t * d = n * b) (h2 : t' * d' = n' * b') (p1 : 0 < b) (p2 : 0 < b') (hd : d ≠ 0) (hd' : d' ≠ 0) : (t * b').fdiv (b * t') = (n * d').fdiv (d * n') := by
  have e1 : (t * b') * (d * d') = (n * d') * (b * b') := by grind
  have e2 : (b * t') * (d * d') = (d * n') * (b * b') := by grind
  have pB : 0 < b * b' := Int.mul_pos p1 p2
  rcases Int.lt_or_gt_of_ne (Int.mul_ne_zero hd hd') with z | z
  · have z' : 0 < -(d * d') := by omega
    rw [← Int.mul_fdiv_mul_of_pos_left (t * b') (b * t') z', ← Int.mul_fdiv_mul_of_pos_left (n * d') (d * n') pB, Int.mul_neg, Int.mul_neg, e1, e2, Int.neg_fdiv_neg]
  · rw [← Int.mul_fdiv_mul_of_pos_left (t * b') (b * t') z, ← Int.mul_fdiv_mul_of_pos_left (n * d') (d * n') pB, e1, e2]
theorem rest_eq {t b n d t' b' n' d' q t2 b2 : Int} (h : t2 * (b * b') = (t * b' - q * t' * b) * b2) (h1 : t * d = n * b) (h2 : t' * d' = n' * b') (p1 : 0 < b) (p2 : 0 < b') : t2 * (d * d') = (n * d' - q * n' * d) * b2 := by
  have pB : 0 < b * b' := Int.mul_pos p1 p2
  exact Int.eq_of_mul_eq_mul_left (Int.ne_of_gt pB) (by grind)
theorem sm_fdiv {k : Nat} {n d : Int} (h : Sm k n) : Sm k (n.fdiv d) := h.le (Int.natAbs_fdiv_le_natAbs n d)
end Mo

namespace Mo
open PySem L2
open Evl (Ex)
section
variable {X : Cx} {CX : CXT} {k : Nat} {fI C : Addr} {fd : FuncData} {ps : List Str} {sp : Sp} {x n : Str} {p pos : Pos} {e : Expr} {es : List Expr} {ta : TA} {te : TE} {dvs : List V} {ds : List Value}
/-- C(e, ..), an error class with its own __init__, as a value -/
def tMkV (C : Addr) (sp : Sp) (dvs : List V) (ta : TA) : TE := fun σ H Q => ta σ H fun vs H1 => vs.length ≤ 1000 ∧ ∀ a, H1 a = none → sp (.ref a :: (vs ++ dvs)) (upd H1 a (exo a C none)) (fun v H2 => v = .non ∧ Q (.ref a) H2) (fun _ _ _ => False)
theorem pe_oexV (T : OexC X.K C) (iC : PySem.W.findIn X.K (.ref C) "__init__" = some (some (.ref fI))) (tI : PySem.W.typeIn X.K (.ref fI) = some (.type "function"))
    (F1 : FnOk X.prog X.w X.K X.mg X.base CX k fI fd ps sp) (hr : Room (k + 1) X.A) (hb : Binds X.K fd ps ds) (hd : Vals dvs ds) (hx : Passes CX X (fun _ _ _ => False)) (hg : Gl X x) (hm : X.mg x = some (.ref C)) (ha : PA X (e :: es) ta)
    (hdb : (x == ("__debug__" : Str)) = false := by decide) (he : starEach (e :: es) X.env = (false, eval e X.env) :: starEach es X.env := by rfl) (hpl : (backTo pos (starEach es X.env)).any (·.1) = false := by rfl) :
    PE X (.Call (.Name x p) (e :: es) [] pos) (tMkV C sp dvs ta) := by
  refine ⟨fun pins s σ H Q I h => ?_⟩
  obtain ⟨nm, q, N, bs, bm, sn, sub, ab, col, dd, k0, k1, k2, k3, k5, hC, hbm⟩ := T.cls
  refine wpAny_Call_Name_kw (ld_glob I hg hm ?_ hdb)
  refine PySem.W.callWith_K (h₀ := X.base) I.ok.mod.kin T.kC (thn (ha.run pos pins s σ H _ I h) fun us s1 ⟨vs, H1, I1, r1, hz, q1⟩ => ⟨I1.kIn, ?_⟩) he hpl
  show wpAny _ _ (call (.ref C) us) _ _ _
  obtain ⟨hp, g, dr, tk, os⟩ := s1
  have hsz : hp.objs.size ≤ hp.objs.size + 1 := Nat.le_succ _
  have hn : H1 (hp.objs.size + 1) = none := I1.hok.fresh hsz
  have hq := q1 (hp.objs.size + 1) hn
  have kk : ∀ b o, hp.get? b = some o → ((hp.push (PySem.W.kdv_tup us)).push (PySem.HandSPX.excO C hp.objs.size)).get? b = some o := fun b o e => Heap.get?_push_of_some _ (Heap.get?_push_of_some _ e)
  have hget : ((hp.push (PySem.W.kdv_tup us)).push (PySem.HandSPX.excO C hp.objs.size)).get? (hp.objs.size + 1) = some (PySem.HandSPX.excO C hp.objs.size) := by heap_get
  have I2 : Inv X pins σ (upd H1 (hp.objs.size + 1) (exo (hp.objs.size + 1) C none)) ⟨(hp.push (PySem.W.kdv_tup us)).push (PySem.HandSPX.excO C hp.objs.size), g, dr, tk, os⟩ :=
    I1.laid (t' := tk) (a := hp.objs.size + 1) (o := exo (hp.objs.size + 1) C none) (h' := (hp.push (PySem.W.kdv_tup us)).push (PySem.HandSPX.excO C hp.objs.size)) kk hsz (exo_ok hget)
  have r2 : Vals (V.ref (hp.objs.size + 1) :: (vs ++ dvs)) (Value.ref (hp.objs.size + 1) :: (us ++ ds)) := .cons rfl (r1.append hd)
  have hl : (Value.ref (hp.objs.size + 1) :: us ++ ds).length = ps.length := by
    have e := r2.length
    rw [F1.len _ _ _ _ hq] at e
    exact e.symm
  have hus : us.length ≤ sizeLine := by
    rw [← Paired.length r1, sizeLine_eq]
    omega
  refine wpAny_call (PySem.HandSPX.call_own F.excBase_ValueError (fun Y => PySem.HandSPX.refsVE_contains Y bm hbm) (I1.kIn _ _ hC) (PySem.W.looks_findIn I1.kIn iC) (fun self => PySem.W.bind_fn I1.kIn self tI) hus
    (codeAny_mono (F1.run _ X.stack _ _ ⟨Value.ref (hp.objs.size + 1) :: us, []⟩ (Value.ref (hp.objs.size + 1) :: (us ++ ds)) _ _ (fun _ _ _ => False) (hr.make C us []) (I2.env0.make C us []) (hb _ (Value.ref (hp.objs.size + 1) :: us) I2.kIn hl) r2 hq) fun r s' hq' => ?_))
  cases r with
  | error er => exact hx pins σ _ _ er s' I2 hq'
  | ok fl =>
    cases fl with
    | ret u =>
      obtain ⟨v, H', J, rv, ev, q3⟩ := I2.after hq'
      subst ev
      exact ⟨rv, V.ref (hp.objs.size + 1), H', J, rfl, q3⟩
    | next => exact False.elim hq'
    | brk => exact False.elim hq'
    | cont => exact False.elim hq'
/-- C(), an error class without its own __init__, as a value -/
theorem pe_exc0 {bmB : List Value} {B newId initId : String} (F : ExcBaseFacts B newId initId bmB) (q : PySem.W.excIn X.K C bmB newId = true) (gC : X.mg x = some (.ref C)) (kC : PySem.W.keepIn X.K (.ref C) = true) (hg : Gl X x)
    (hdb : (x == ("__debug__" : Str)) = false := by decide) :
    PE X (.Call (.Name x p) [] [] pos) (fun σ H Q => ∀ a, H a = none → Q (.ref a) (upd H a (ExO (.ref C) a))) := by
  refine ⟨fun pins s σ H Q I h => ?_⟩
  refine wpAny_Call_Name_kw (ld_glob I hg gC ?_ hdb)
  refine PySem.W.callWith_K0 (first := []) I.kIn kC ?_
  show wpAny _ _ (call (.ref C) []) _ _ _
  obtain ⟨bm, N, nm, qn, bs, hdct, sn, sub, ab, col, dd, k0, k1, k2, k3, k5, mN, hC, hN, hni, T⟩ := exc_obj I.kIn q
  obtain ⟨hp, g, dr, tk, os⟩ := s
  refine wpAny_call_exc_subT F T hC hN hni (fun h' a hm => ?_) (by show 0 ≤ sizeLine; omega)
  have hn : H a = none := I.hok.gone hm.new
  obtain ⟨t, ht, _, _⟩ := hm.there
  exact ⟨.ref a, upd H a (ExO (.ref C) a), I.laidN hm.keeps hm.new hn (exO_ok ht ⟨rfl, rfl⟩ rfl rfl rfl (show 4 < 6 by decide)), rfl, h a hn⟩
/-- e.f of such a value -/
def tExo (K : PySem.W.Frag) (f : Str) (te : TE) : TE := fun σ H Q => te σ H fun x H1 => ∃ (a C d : Addr) (fs : List (Str × V)) (v : V), x = .ref a ∧ XfC K C ∧ PySem.W.findIn K (.ref C) f = some none ∧ H1 a = some (exo a C (some d)) ∧ H1 d = some (exd d fs) ∧ fs.lookup f = some v ∧ Q v H1
theorem pe_exo {e : Expr} {te : TE} (he : PE X e te) (hb : attributeBase e n X.env (eval e X.env) = eval e X.env := by rfl) : PE X (.Attribute e n pos) (tExo X.K n te) := by
  refine ⟨fun pins s σ H Q I h => ?_⟩
  refine attr_of hb (thn (he.run pins s σ H _ I h) fun u s1 hh => ?_)
  obtain ⟨x, H1, I1, rx, a, C, d, fs, v, ex, T, hno, ea, ed, l, q⟩ := hh
  subst ex
  obtain rfl : u = Value.ref a := rx
  obtain ⟨t0, ha⟩ := exo_at I1.hok ea
  obtain ⟨mA, hns, hr⟩ := exd_at I1.hok ed
  obtain ⟨od, ho, hl⟩ := lookIn_ns hns
  obtain ⟨u, hu, ru⟩ := RelO.some_of (v := v) (o := mA n) (by rw [← l]; exact hr n)
  have J : PySem.W.InstAt s1.heap a _ C (some od) := ⟨ha, rfl, rfl, ho⟩
  exact HandSPX.exc_get I1.kIn J T.ga T.gg T.exC (PySem.W.findObj_own T.hdC hno rfl (by rw [hl, hu])) (handed_of ru) ⟨v, H1, I1.tok _, ru, q⟩
end
/-- an error object of the class at C -/
def IsX (C a : Addr) (H : Hp) : Prop := (∃ d fs, H a = some (exo a C (some d)) ∧ H d = some (exd d fs)) ∨ H a = some (ExO (.ref C) a)
theorem IsX.ex {C a : Addr} {H H' : Hp} (h : IsX C a H) (e : Ex H H') : IsX C a H' := by
  rcases h with ⟨d, fs, h1, h2⟩ | h
  · exact .inl ⟨d, fs, e _ _ h1, e _ _ h2⟩
  · exact .inr (e _ _ h)
/-- what isinstance asks of its class -/
structure XiC (K : PySem.W.Frag) (C : Addr) : Prop where
  cl : PySem.W.isClsIn K C = true
  ga : PySem.W.findIn K (.ref C) "__getattribute__" = some (some (.builtin "BaseException.__getattribute__"))
  gg : PySem.W.findIn K (.ref C) "__getattr__" = some none
  ex : PySem.W.subIn K (.ref C) (.type "BaseException") = some true
  cc : PySem.W.findIn K (.ref C) "__class__" = some (some (.builtin "object.__class__"))
  cg : PySem.W.specialIn K (.builtin "object.__class__") "__get__" = some (some (.builtin "getset_descriptor.__get__"))
  ct : PySem.W.takesIn K (.builtin "object.__class__") = some true
  mo : PySem.W.mroIn K C (.type "object") = some true
def rIsiE (K : PySem.W.Frag) : List V → Hp → VK → Prop := fun xs H Q => ∃ (a C : Addr) (c : V) (u : Value) (b : Bool), xs = [.ref a, c] ∧ ClsV c u ∧ XiC K C ∧ IsX C a H ∧ PySem.W.kitOne K (.ref C) u = some b ∧ Q (.bl b) H
theorem call_isiE {X : Cx} : CallR X (.builtin "isinstance") (rIsiE X.K) := by
  intro pins s σ H xs us Q I r h
  obtain ⟨a, C, c, u, b, rfl, k, T, hx, e, q⟩ := h
  obtain ⟨u1, u2, rfl, r1, r2⟩ := vals2 r
  have e2 := k.eq r2
  subst e2
  cases (show u1 = Value.ref a from r1)
  have J : ∃ ox od, PySem.W.InstAt s.heap a ox C od := by
    rcases hx with ⟨d, fs, ea, ed⟩ | ea
    · obtain ⟨t0, ha⟩ := exo_at I.hok ea
      obtain ⟨mA, hns, hr⟩ := exd_at I.hok ed
      obtain ⟨od, ho, hl⟩ := lookIn_ns hns
      exact ⟨_, some od, ha, rfl, rfl, ho⟩
    · obtain ⟨⟨oe, vs, ho, hz, hd, _⟩, _, _⟩ := I.hok a _ ea
      exact ⟨oe, none, ho, hz.1, by unfold PySem.W.notCls; rw [hd] <;> rfl, by rw [hz.2]; trivial⟩
  obtain ⟨ox, od, J⟩ := J
  exact PySem.W.kia_one (PySem.W.kitx_exc T.cl T.ga T.gg T.ex T.cc T.cg T.ct T.mo) I.kIn J e (fun z => nomatch z) fun tk => ⟨.bl b, H, I.tok tk, rfl, q⟩
end Mo

namespace Mo
open PySem L2
open Evl (Ex)
/-- an error class as the top has left it -/
structure EC (K : PySem.W.Frag) (CA : Addr) (nm : Str) (C : Addr) : Prop where
  x : ∃ q N bs sn sub ab col dd k0 k1 k2 k3 k5, K.lookup C = some (excClassObj nm q C N bs [.ref CA, .type "ValueError", .type "Exception", .type "BaseException", .type "object"] true sn sub ab col dd k0 k1 k2 k3 k5 "ValueError.__new__")
  sa : PySem.W.findIn K (.ref C) "__setattr__" = some (some (.builtin "object.__setattr__"))
  ga : PySem.W.findIn K (.ref C) "__getattribute__" = some (some (.builtin "BaseException.__getattribute__"))
  gg : PySem.W.findIn K (.ref C) "__getattr__" = some none
  cc : PySem.W.findIn K (.ref C) "__class__" = some (some (.builtin "object.__class__"))
  kp : PySem.W.keepIn K (.ref C) = true
section
variable {K : PySem.W.Frag} {CA C : Addr} {nm : Str}
theorem clsIn_of {a : Value} {b : Option Addr} {cd : ClassData} {sl : Array (Option Value)} (e : K.lookup C = some ⟨a, b, .cls cd, sl⟩) : PySem.W.clsIn K C = some cd := by
  unfold PySem.W.clsIn
  rw [e]
theorem EC.cls (h : EC K CA nm C) : ∃ cd, PySem.W.clsIn K C = some cd ∧ cd.mro = [.ref C, .ref CA, .type "ValueError", .type "Exception", .type "BaseException", .type "object"] ∧ cd.name = nm ∧ cd.hasDict = true := by
  obtain ⟨q, N, bs, sn, sub, ab, col, dd, k0, k1, k2, k3, k5, e⟩ := h.x
  exact ⟨_, clsIn_of e, rfl, rfl, rfl⟩
theorem EC.sub (h : EC K CA nm C) (v : Value) : PySem.W.subIn K (.ref C) v = some (([.ref C, .ref CA, .type "ValueError", .type "Exception", .type "BaseException", .type "object"] : List Value).contains v) := by
  obtain ⟨cd, e, m, _⟩ := h.cls
  show PySem.W.mroIn K C v = _
  unfold PySem.W.mroIn
  rw [e]
  show (if cd.mro.isEmpty = true then none else some (cd.mro.contains v)) = _
  rw [m]
  rfl
theorem EC.ty (h : EC K CA nm C) : PySem.W.typeIn K (.ref C) = some (.type "type") := by
  obtain ⟨q, N, bs, sn, sub, ab, col, dd, k0, k1, k2, k3, k5, e⟩ := h.x
  show (K.lookup C).map _ = _
  rw [e]
  rfl
theorem EC.ic (h : EC K CA nm C) : PySem.W.isClsIn K C = true := by
  obtain ⟨cd, e, _⟩ := h.cls
  show (PySem.W.clsIn K C).isSome = true
  rw [e]
  rfl
theorem EC.hd (h : EC K CA nm C) : PySem.W.hasDictIn K C = true := by
  obtain ⟨cd, e, _, _, d⟩ := h.cls
  show (PySem.W.clsIn K C).any _ = true
  rw [e]
  exact d
theorem cont_ty {C CA : Addr} {T : String} (h : (["ValueError", "Exception", "BaseException", "object"] : List String).contains T = true) : ([.ref C, .ref CA, .type "ValueError", .type "Exception", .type "BaseException", .type "object"] : List Value).contains (.type T) = true := by
  have h' : T ∈ (["ValueError", "Exception", "BaseException", "object"] : List String) := List.contains_iff_mem.mp h
  refine List.contains_iff_mem.mpr ?_
  simp only [List.mem_cons, List.not_mem_nil, or_false] at h'
  rcases h' with rfl | rfl | rfl | rfl <;> simp
theorem EC.subT (h : EC K CA nm C) {T : String} (hT : (["ValueError", "Exception", "BaseException", "object"] : List String).contains T = true) : PySem.W.subIn K (.ref C) (.type T) = some true := by
  rw [h.sub, cont_ty hT]
theorem EC.oex (h : EC K CA nm C) : OexC K C := by
  obtain ⟨q, N, bs, sn, sub, ab, col, dd, k0, k1, k2, k3, k5, e⟩ := h.x
  exact ⟨⟨_, _, _, _, _, _, _, _, _, _, _, _, _, _, _, e, rfl⟩, h.sa, h.subT (by decide), h.ty, h.kp⟩
theorem EC.xf (h : EC K CA nm C) : XfC K C := ⟨h.ga, h.gg, h.subT (by decide), h.hd⟩
theorem EC.xi (h : EC K CA nm C) (cg : PySem.W.specialIn K (.builtin "object.__class__") "__get__" = some (some (.builtin "getset_descriptor.__get__"))) (ct : PySem.W.takesIn K (.builtin "object.__class__") = some true) : XiC K C :=
  ⟨h.ic, h.ga, h.gg, h.subT (by decide), h.cc, cg, ct, h.subT (T := "object") (by decide)⟩
theorem EC.kitT (h : EC K CA nm C) {T : String} (hT : (["ValueError", "Exception", "BaseException", "object"] : List String).contains T = true) (hm : PySem.W.kitMeta T = true := by decide +kernel) : PySem.W.kitOne K (.ref C) (.type T) = some true := kit_ct (h.subT hT) hm
theorem kit_rr {C D : Addr} {b : Bool} (hne : C ≠ D) (hc : PySem.W.isClsIn K D = true) (ht : PySem.W.typeIn K (.ref D) = some (.type "type")) (h : PySem.W.subIn K (.ref C) (.ref D) = some b) : PySem.W.kitOne K (.ref C) (.ref D) = some b := by
  unfold PySem.W.kitOne
  rw [if_neg (by intro z; exact hne (Value.ref.inj (beq_iff_eq.mp z)))]
  have h2 : (PySem.W.clsIn K D).isSome = true := hc
  show (if ((PySem.W.clsIn K D).isSome && PySem.W.typeIn K (.ref D) == some (.type "type")) = true then PySem.W.subIn K (.ref C) (.ref D) else none) = some b
  rw [if_pos (by rw [h2, ht]; rfl), h]
theorem EC.kitA (h : EC K CA nm C) (ic : PySem.W.isClsIn K CA = true) (ty : PySem.W.typeIn K (.ref CA) = some (.type "type")) : PySem.W.kitOne K (.ref C) (.ref CA) = some true := by
  by_cases e : C = CA
  · subst e
    exact kit_self
  · refine kit_rr e ic ty ?_
    rw [h.sub]
    congr 1
    exact List.contains_iff_mem.mpr (by simp)
theorem EC.kitD {D : Addr} {nm' : Str} (h : EC K CA nm C) (h' : EC K CA nm' D) (ne : C ≠ D) (na : D ≠ CA) : PySem.W.kitOne K (.ref C) (.ref D) = some false := by
  refine kit_rr ne h'.ic h'.ty ?_
  rw [h.sub]
  congr 1
  refine Bool.eq_false_iff.mpr fun z => ?_
  have z := List.contains_iff_mem.mp z
  simp only [List.mem_cons, List.not_mem_nil, or_false] at z
  rcases z with z | z | z | z | z | z
  · exact ne (Value.ref.inj z).symm
  · exact na (Value.ref.inj z)
  all_goals cases z
theorem EC.ne {D : Addr} {nm' : Str} (h : EC K CA nm C) (h' : EC K CA nm' D) (n : nm ≠ nm') : C ≠ D := fun e => by
  subst e
  obtain ⟨cd, e1, _, e2, _⟩ := h.cls
  obtain ⟨cd', e1', _, e2', _⟩ := h'.cls
  rw [e1] at e1'
  cases e1'
  exact n (e2.symm.trans e2')
theorem EC.na (h : EC K CA nm C) {cd : ClassData} (e : PySem.W.clsIn K CA = some cd) (n : cd.name ≠ nm) : C ≠ CA := fun z => by
  subst z
  obtain ⟨cd', e1, _, e2, _⟩ := h.cls
  rw [e1] at e
  cases e
  exact n e2
end
/-- classes with their names -/
inductive ECs (K : PySem.W.Frag) (CA : Addr) : List Str → List Addr → Prop where
  | nil : ECs K CA [] []
  | cons {nm : Str} {C : Addr} {ns : List Str} {Cs : List Addr} (h : EC K CA nm C) (t : ECs K CA ns Cs) : ECs K CA (nm :: ns) (C :: Cs)
theorem ECs.get {K : PySem.W.Frag} {CA : Addr} : ∀ {ns : List Str} {Cs : List Addr} {i : Nat} {C : Addr}, ECs K CA ns Cs → Cs[i]? = some C → ∃ nm, ns[i]? = some nm ∧ EC K CA nm C
  | _, _, 0, _, .cons h t, e => by cases e; exact ⟨_, rfl, h⟩
  | _, _, i + 1, _, .cons h t, e => t.get e
/-- which class an error of the j-th class is one of -/
theorem ECs.kit {K : PySem.W.Frag} {CA : Addr} {ns : List Str} {Cs : List Addr} (h : ECs K CA ns Cs) (nd : ns.Nodup) {cd : ClassData} (e : PySem.W.clsIn K CA = some cd) (na : cd.name ∉ ns) {i j : Nat} {C D : Addr} (h1 : Cs[j]? = some C) (h2 : Cs[i]? = some D) :
    PySem.W.kitOne K (.ref C) (.ref D) = some (decide (i = j)) := by
  obtain ⟨n1, g1, E1⟩ := h.get h1
  obtain ⟨n2, g2, E2⟩ := h.get h2
  by_cases hij : i = j
  · subst hij
    rw [h1] at h2
    cases h2
    rw [decide_eq_true rfl]
    exact kit_self
  · rw [decide_eq_false hij]
    refine E1.kitD E2 (E1.ne E2 fun q => hij ?_) (E2.na e fun q => na (q ▸ List.mem_of_getElem? g2))
    subst q
    obtain ⟨l1, _⟩ := List.getElem?_eq_some_iff.mp g1
    exact ((List.getElem?_inj l1 nd).mp (g1.trans g2.symm)).symm
/-! promises of the __init__s -/
def Kp (a : Addr) (H H' : Hp) : Prop := ∀ q o, H q = some o → q ≠ a → H' q = some o
theorem kp_ex {a : Addr} {o : HO} {H H' : Hp} (n : H a = none) (k : Kp a (upd H a o) H') : Ex H H' := fun q u e => by
  have hq : q ≠ a := ne_of_none e n
  exact k q u (by rw [upd_ne hq]; exact e) hq
def spE1 (C : Addr) (f : Str) : Sp := fun vs H Q _ => ∃ (a : Addr) (x : Int), vs = [.ref a, .int x] ∧ H a = some (exo a C none) ∧ ∀ dx H', Kp a H H' → H' a = some (exo a C (some dx)) → H' dx = some (exd dx [(f, .int x)]) → Q .non H'
def spE1i (C : Addr) (f : Str) : Sp := fun vs H Q _ => ∃ (a : Addr) (x : Int), vs = [.ref a, .int x] ∧ H a = some (exo a C none) ∧ ∀ dx H', Kp a H H' → H' a = some (exo a C (some dx)) → H' dx = some (exd dx [(f, .int x)]) → Q .non H'
theorem new_at {H : Hp} {l : Addr} {o : HO} (_ : Ex H (upd H l o)) : upd H l o l = some o := upd_same
def spE2 (C : Addr) (f g : Str) : Sp := fun vs H Q _ => ∃ (a : Addr) (x y : Int), vs = [.ref a, .int x, .int y] ∧ H a = some (exo a C none) ∧ ∀ dx H', Kp a H H' → H' a = some (exo a C (some dx)) → H' dx = some (exd dx [(g, .int y), (f, .int x)]) → Q .non H'
def spE3 (C : Addr) (f g h : Str) : Sp := fun vs H Q _ => ∃ (a : Addr) (x y z : Int), vs = [.ref a, .int x, .int y, .int z] ∧ H a = some (exo a C none) ∧ ∀ dx H', Kp a H H' → H' a = some (exo a C (some dx)) → H' dx = some (exd dx [(h, .int z), (g, .int y), (f, .int x)]) → Q .non H'
theorem kp1 {a dx : Addr} {H : Hp} {u w : HO} (n : H dx = none) : Kp a H (upd (upd H dx u) a w) := fun q o e hq => by
  have h2 : q ≠ dx := ne_of_none e n
  rw [upd_ne hq, upd_ne h2]
  exact e
theorem kp2 {a dx : Addr} {H H' : Hp} {u : HO} (n : H dx = none) (k : Kp a H H') : Kp a H (upd H' dx u) := fun q o e hq => by
  rw [upd_ne (ne_of_none e n)]
  exact k q o e hq
theorem lk1 {f : Str} {x : V} : ([(f, x)] : List (Str × V)).lookup f = some x := by rw [lookup_put, if_pos rfl]
theorem lk2 {f g : Str} {x y : V} (h : ¬ f = g) : ([(g, y), (f, x)] : List (Str × V)).lookup f = some x := by rw [lookup_put, if_neg h, lk1]
theorem lkh {f : Str} {x : V} {l : List (Str × V)} : ((f, x) :: l).lookup f = some x := by rw [lookup_put, if_pos rfl]
theorem lkt {f g : Str} {x y : V} {l : List (Str × V)} (h : ¬ f = g) (e : l.lookup f = some x) : ((g, y) :: l).lookup f = some x := by rw [lookup_put, if_neg h, e]
/-! rows -/
def RowAt (C : Addr) (x : V) (H : Hp) : Prop := ∃ (tp e l1 l2 : Addr) (zs : List Int), x = .ref tp ∧ H tp = some (.tup [.ref e, .ref l1, .ref l2]) ∧ IsX C e H ∧ H l1 = some (.lst (zs.map V.int)) ∧ H l2 = some (.lst (zs.map V.int)) ∧ zs.length ≤ 3
theorem RowAt.ex {C : Addr} {x : V} {H H' : Hp} (h : RowAt C x H) (e : Ex H H') : RowAt C x H' := by
  obtain ⟨tp, a, l1, l2, zs, h0, h1, h2, h3, h4, h5⟩ := h
  exact ⟨tp, a, l1, l2, zs, h0, e _ _ h1, h2.ex e, e _ _ h3, e _ _ h4, h5⟩
theorem rowAt_mk {C tp e l1 l2 : Addr} {H : Hp} (zs : List Int) (h1 : H tp = some (.tup [.ref e, .ref l1, .ref l2])) (h2 : IsX C e H) (h3 : H l1 = some (.lst (zs.map V.int))) (h4 : H l2 = some (.lst (zs.map V.int))) (h5 : zs.length ≤ 3) : RowAt C (.ref tp) H := ⟨tp, e, l1, l2, zs, rfl, h1, h2, h3, h4, h5⟩
inductive Rows : List Addr → List V → Hp → Prop where
  | nil {H : Hp} : Rows [] [] H
  | cons {C : Addr} {x : V} {Cs : List Addr} {xs : List V} {H : Hp} (h : RowAt C x H) (t : Rows Cs xs H) : Rows (C :: Cs) (x :: xs) H
theorem Rows.ex : ∀ {Cs : List Addr} {xs : List V} {H H' : Hp}, Rows Cs xs H → Ex H H' → Rows Cs xs H'
  | _, _, _, _, .nil, _ => .nil
  | _, _, _, _, .cons h t, e => .cons (h.ex e) (t.ex e)
theorem Rows.len : ∀ {Cs : List Addr} {xs : List V} {H : Hp}, Rows Cs xs H → xs.length = Cs.length
  | _, _, _, .nil => rfl
  | _, _, _, .cons h t => by rw [List.length_cons, List.length_cons, t.len]
theorem Rows.app : ∀ {Cs Ds : List Addr} {xs ys : List V} {H : Hp}, Rows Cs xs H → Rows Ds ys H → Rows (Cs ++ Ds) (xs ++ ys) H
  | _, _, _, _, _, .nil, r => r
  | _, _, _, _, _, .cons h t, r => .cons h (t.app r)
theorem Rows.get : ∀ {Cs : List Addr} {xs : List V} {H : Hp} {i : Nat}, Rows Cs xs H → i < xs.length → ∃ C x, Cs[i]? = some C ∧ xs[i]? = some x ∧ RowAt C x H
  | _, _, _, 0, .cons h t, _ => ⟨_, _, rfl, rfl, h⟩
  | _, _, _, i + 1, .cons h t, l => t.get (i := i) (by simpa using l)
  | _, _, _, _, .nil, l => by cases l
def spPairs (Cs : List Addr) : Sp := fun vs H Q _ => ∃ a b c : Int, vs = [.int a, .int b, .int c] ∧ ∀ p xs H', Ex H H' → H' p = some (.lst xs) → Rows Cs xs H' → Q (.ref p) H'
def spSingles (Cs : List Addr) : Sp := fun vs H Q _ => ∃ a : Int, vs = [.int a] ∧ ∀ p xs H', Ex H H' → H' p = some (.lst xs) → Rows Cs xs H' → Q (.ref p) H'
def spKinds (K : PySem.W.Frag) (Cs : List Addr) : Sp := fun vs H Q _ => ∃ (e C : Addr) (b : Nat → Bool), vs = [.ref e] ∧ XiC K C ∧ IsX C e H ∧ (∀ i D, Cs[i]? = some D → PySem.W.kitOne K (.ref C) (.ref D) = some (b i)) ∧
  ∀ p H', Ex H H' → H' p = some (.lst ((List.range 22).map fun i => V.bl (b i))) → Q (.ref p) H'
/-! equal lists of ints are not unequal -/
def dInts (ns : List Int) : PyData := .list (ns.map .int)
theorem dp_all {K : PySem.W.Frag} {H : Hp} : ∀ ns : List Int, DpAll K H (ns.map V.int) (ns.map PyData.int)
  | [] => .nil
  | n :: ns => .cons (.int n) (dp_all ns)
theorem dp_ints {K : PySem.W.Frag} {H : Hp} {a : Addr} {ns : List Int} (h : H a = some (.lst (ns.map V.int))) : Dp K H (.ref a) (dInts ns) := .lst (SqL.of h) (dp_all ns)
theorem shaped_ints : ∀ {ns : List Int}, ns.length ≤ 3 → SeqAt.shaped (dInts ns) = true
  | [], _ => rfl
  | [_], _ => rfl
  | [_, _], _ => rfl
  | [_, _, _], _ => rfl
  | _ :: _ :: _ :: _ :: _, h => by simp at h
theorem eqv_all : ∀ ns : List Int, PyData.eqvAll (ns.map PyData.int) (ns.map PyData.int) = true
  | [] => by simp [PyData.eqvAll]
  | n :: ns => by
    rw [List.map_cons, PyData.eqvAll, eqv_all ns, PyData.eqv]
    simp
theorem eqv_ints (ns : List Int) : PyData.eqv (dInts ns) (dInts ns) = true := by
  unfold dInts
  rw [PyData.eqv, eqv_all]
end Mo

namespace Mo
open PySem PyProof.Rows L2
open Evl (Ex)
section
variable {X : Cx} {a b c d : Expr} {ta tb tc td : TE} {pos : Pos}
/-- a op1 b op2 c op3 d, as a test -/
def tChain3 (r r' r'' : R2) (ta tb tc td : TE) : TT := fun σ H Q => ta σ H fun x H1 => tb σ H1 fun y H2 => r x y H2 fun z H3 => ∃ k, z = .bl k ∧
  (if k = true then tc σ H3 fun w' H4 => r' y w' H4 fun z H5 => ∃ k, z = .bl k ∧ (if k = true then td σ H5 fun v' H6 => r'' w' v' H6 fun z H7 => ∃ k, z = .bl k ∧ Q k H7 else Q false H5) else Q false H3)
theorem pt_chain3 {o1 o2 o3 : CmpOp} {r r' r'' : R2} (ho : OpR X (compareOp o1) r) (ho' : OpR X (compareOp o2) r') (ho'' : OpR X (compareOp o3) r'') (ha : PE X a ta) (hb : PE X b tb) (hc : PE X c tc) (hd : PE X d td)
    (hm : lastMarks [o1, o2, o3] [b, c, d] = false := by with_unfolding_all rfl) : PT X (.Compare a [o1, o2, o3] [b, c, d] pos) (tChain3 r r' r'' ta tb tc td) := by
  refine ⟨fun pins s σ H Q I h => ?_⟩
  refine isTrue_chain (thn (ha.run pins s σ H _ I h) fun v s1 ⟨x, H1, I1, r1, q1⟩ => test_link (thn (hb.run pins s1 σ H1 _ I1 q1) fun u s2 ⟨y, H2, I2, r2, q2⟩ =>
    thn (ho pins s2 σ H2 x y v u _ I2 r1 r2 q2) fun d s3 ⟨z, H3, I3, r3, k, e, q3⟩ => ?_)) hm
  subst e
  cases r3
  refine wpAny_truthy_bool ?_
  cases k with
  | false => exact ite_ff ⟨H3, I3, q3⟩
  | true =>
    refine ite_tt (test_link (thn (hc.run pins s3 σ H3 _ I3 q3) fun w' s4 ⟨z', H4, I4, r4, q4⟩ => thn (ho' pins s4 σ H4 y z' u w' _ I4 r2 r4 q4) fun d' s5 ⟨z2, H5, I5, r5, k2, e2, q5⟩ => ?_))
    subst e2
    cases r5
    refine wpAny_truthy_bool ?_
    cases k2 with
    | false => exact ite_ff ⟨H5, I5, q5⟩
    | true =>
      refine ite_tt (test_last (thn (hd.run pins s5 σ H5 _ I5 q5) fun v' s6 ⟨z3, H6, I6, r6, q6⟩ => thn (ho'' pins s6 σ H6 z' z3 w' v' _ I6 r4 r6 q6) fun d' s7 ⟨z4, H7, I7, r7, k3, e3, q7⟩ => ?_))
      subst e3
      cases r7
      exact wpAny_truthy_bool ⟨H7, I7, q7⟩
end
/-! ### times of all kinds compared -/
def rIC (g : Int → Int → Bool) : R2 := rI0 fun i j => .bl (g i j)
theorem cmp_tm {C : Addr} {x y : V} {t b t' b' : Int} {H : Hp} {g g' : Int → Int → Bool} {Q : VK} (hx : Tm C t b x H) (hy : Tm C t' b' y H) (st : Sm 1900 t) (sb : Sm 1900 b) (st' : Sm 1900 t') (sb' : Sm 1900 b') (hg : ∀ i j, g' i j = g j i)
    (k : ∀ H', Ex H H' → Q (.bl (g (t * b') (t' * b))) H') : (rCmp C (spCmp C g) E0 x y H Q ∨ rCmpR C (spCmp C g') E0 x y H Q) ∨ rIC g x y H Q := by
  rcases hx with hx | ⟨rfl, rfl⟩
  · exact .inl (cmp_two (.inl ⟨hx, hy⟩) st sb st' sb' hg k)
  · rcases hy with hy | ⟨rfl, rfl⟩
    · exact .inl (cmp_two (.inr ⟨⟨rfl, rfl⟩, hy⟩) st sb st' sb' hg k)
    · refine .inr ⟨_, _, rfl, rfl, ?_⟩
      have z := k H (Ex.refl _)
      rw [Int.mul_one, Int.mul_one] at z
      exact z
/-! ### a mark as an object -/
def kF (n : Int) (b e s t : V) : List (Str × V) := putF "stop" t (putF "start" s (putF "end" e (putF "begin" b (putF "tone" (.int n) []))))
theorem kF_look (n : Int) (b e s t : V) (f : Str) : (kF n b e s t).lookup f = if f = "stop" then some t else if f = "start" then some s else if f = "end" then some e else if f = "begin" then some b else if f = "tone" then some (.int n) else none := by
  unfold kF
  rw [lookup_putF, lookup_putF, lookup_putF, lookup_putF, lookup_putF]
  rfl
structure KT where
  n : Int
  b : Int × Int
  e : Int × Int
  s : Int × Int
  t : Int × Int
/-- a Mark object with the five values -/
def MkA (CM C : Addr) (m : KT) (v : V) (H : Hp) : Prop := ∃ a dx b e s t, v = .ref a ∧ H a = some (.ins CM dx (kF m.n b e s t)) ∧ Mo C m.b.1 m.b.2 b H ∧ Mo C m.e.1 m.e.2 e H ∧ Mo C m.s.1 m.s.2 s H ∧ Mo C m.t.1 m.t.2 t H
theorem MkA.ex {CM C : Addr} {m : KT} {v : V} {H H' : Hp} (h : MkA CM C m v H) (x : Ex H H') : MkA CM C m v H' := by
  obtain ⟨a, dx, b, e, s, t, h0, h1, h2, h3, h4, h5⟩ := h
  exact ⟨a, dx, b, e, s, t, h0, x _ _ h1, h2.ex x, h3.ex x, h4.ex x, h5.ex x⟩
def FLt (x y : Int × Int) : Prop := x.1 * y.2 < y.1 * x.2
def FLe (x y : Int × Int) : Prop := x.1 * y.2 ≤ y.1 * x.2
def KT.ok (m : KT) : Prop := FLe m.b m.s ∧ FLt m.s m.t ∧ FLe m.t m.e
def FT (C : Addr) (x : Int × Int) (v : V) (H : Hp) : Prop := Tm C x.1 x.2 v H ∧ 0 < x.2 ∧ Sm 1900 x.1 ∧ Sm 1900 x.2
theorem FT.ex {C : Addr} {x : Int × Int} {v : V} {H H' : Hp} (h : FT C x v H) (e : Ex H H') : FT C x v H' := ⟨h.1.ex e, h.2⟩
def KpP (p : Addr) (H H' : Hp) : Prop := ∀ q o, H q = some o → q ≠ p → H' q = some o
theorem KpP.refl {p : Addr} {H : Hp} : KpP p H H := fun _ _ e _ => e
theorem KpP.upd {p : Addr} {H H' : Hp} {o : HO} (k : KpP p H H') : KpP p H (upd H' p o) := fun q u e hq => by
  rw [upd_ne hq]
  exact k q u e hq
theorem KpP.ex {p : Addr} {H H' H'' : Hp} (k : KpP p H H') (x : Ex H' H'') : KpP p H H'' := fun q u e hq => x _ _ (k q u e hq)
theorem Mo.kp {C p CM dx : Addr} {t b : Int} {v : V} {H H' : Hp} {fs : List (Str × V)} (h : Mo C t b v H) (hp : H p = some (.ins CM dx fs)) (hn : fs.lookup ("top" : Str) = none) (k : KpP p H H') : Mo C t b v H' := by
  obtain ⟨a, d, r, e⟩ := h
  refine ⟨a, d, r, k a _ e fun z => ?_⟩
  subst z
  rw [e] at hp
  cases hp
  rw [mf_top] at hn
  cases hn
theorem Tm.kp {C p CM dx : Addr} {t b : Int} {v : V} {H H' : Hp} {fs : List (Str × V)} (h : Tm C t b v H) (hp : H p = some (.ins CM dx fs)) (hn : fs.lookup ("top" : Str) = none) (k : KpP p H H') : Tm C t b v H' := h.elim (fun h => .inl (h.kp hp hn k)) .inr
/-- Mark(..) by its __init__ -/
def spMark (CM C CN : Addr) : Sp := fun vs H Q E => ∃ (p dx : Addr) (m : KT) (xb xe xs xt : V), vs = [.ref p, .int m.n, xb, xe, xs, xt] ∧ H p = some (.ins CM dx []) ∧ FT C m.b xb H ∧ FT C m.e xe H ∧ ((xs = .non ∧ m.s = m.b) ∨ FT C m.s xs H) ∧ ((xt = .non ∧ m.t = m.e) ∨ FT C m.t xt H) ∧
  (¬ m.ok → ∀ (dd : Addr) (fs : List (Str × V)) (H' : Hp), fs.lookup ("tone" : Str) = some (.int m.n) → fs.lookup ("begin" : Str) = some xb → fs.lookup ("end" : Str) = some xe → H' dd = some (.xd fs) → Ex H H' → E (.ref CN) (some dd) H') ∧
  (m.ok → ∀ (b e s t : V) (H' : Hp), KpP p H H' → H' p = some (.ins CM dx (kF m.n b e s t)) → Mo C m.b.1 m.b.2 b H' → Mo C m.e.1 m.e.2 e H' → Mo C m.s.1 m.s.2 s H' → Mo C m.t.1 m.t.2 t H' → Q .non H')
/-- NoMark(tone, begin, end)'s __init__ -/
def spNoK (K : PySem.W.Frag) (C : Addr) : Sp := fun vs H Q _ => ∃ (a : Addr) (x y z : V), vs = [.ref a, x, y, z] ∧ H a = some (exo a C none) ∧ Plain K H x ∧ Plain K H y ∧ Plain K H z ∧
  ∀ dx, H dx = none → dx ≠ a → Q .non (upd (upd (upd (upd H dx (exd dx [(("tone" : Str), x)])) a (exo a C (some dx))) dx (exd dx [(("begin" : Str), y), (("tone" : Str), x)])) dx (exd dx [(("end" : Str), z), (("begin" : Str), y), (("tone" : Str), x)]))
end Mo

namespace Mo
open PySem PyProof.Rows L2
open Evl (Ex)
/-! ### the fractions of marks -/
def Fsz (x : Int × Int) : Prop := Red x.1 x.2 ∧ Sm 400 x.1 ∧ Sm 400 x.2
structure KT.Sz (m : KT) : Prop where
  b : Fsz m.b
  e : Fsz m.e
  s : Fsz m.s
  t : Fsz m.t
theorem le_lt_tr {x y z : Int × Int} (px : 0 < x.2) (py : 0 < y.2) (pz : 0 < z.2) (h1 : x.1 * y.2 ≤ y.1 * x.2) (h2 : y.1 * z.2 < z.1 * y.2) : x.1 * z.2 < z.1 * x.2 := by
  have a1 : (x.1 * y.2) * z.2 ≤ (y.1 * x.2) * z.2 := Int.mul_le_mul_of_nonneg_right h1 (Int.le_of_lt pz)
  have a2 : (y.1 * z.2) * x.2 < (z.1 * y.2) * x.2 := Int.mul_lt_mul_of_pos_right h2 px
  have e1 : (x.1 * z.2) * y.2 = (x.1 * y.2) * z.2 := by grind
  have e2 : (y.1 * x.2) * z.2 = (y.1 * z.2) * x.2 := by grind
  have e3 : (z.1 * x.2) * y.2 = (z.1 * y.2) * x.2 := by grind
  exact Int.lt_of_mul_lt_mul_right (a := y.2) (by omega) (Int.le_of_lt py)
theorem lt_le_tr {x y z : Int × Int} (px : 0 < x.2) (py : 0 < y.2) (pz : 0 < z.2) (h1 : x.1 * y.2 < y.1 * x.2) (h2 : y.1 * z.2 ≤ z.1 * y.2) : x.1 * z.2 < z.1 * x.2 := by
  have a1 : (x.1 * y.2) * z.2 < (y.1 * x.2) * z.2 := Int.mul_lt_mul_of_pos_right h1 pz
  have a2 : (y.1 * z.2) * x.2 ≤ (z.1 * y.2) * x.2 := Int.mul_le_mul_of_nonneg_right h2 (Int.le_of_lt px)
  have e1 : (x.1 * z.2) * y.2 = (x.1 * y.2) * z.2 := by grind
  have e2 : (y.1 * x.2) * z.2 = (y.1 * z.2) * x.2 := by grind
  have e3 : (z.1 * x.2) * y.2 = (z.1 * y.2) * x.2 := by grind
  exact Int.lt_of_mul_lt_mul_right (a := y.2) (by omega) (Int.le_of_lt py)
theorem KT.ok_lt {m : KT} (h : m.Sz) (o : m.ok) : m.b.1 * m.e.2 < m.e.1 * m.b.2 := le_lt_tr h.b.1.1 h.s.1.1 h.e.1.1 o.1 (lt_le_tr h.s.1.1 h.t.1.1 h.e.1.1 o.2.1 o.2.2)
/-- the list of the four pairs -/
def Times (m : KT) (p : Addr) (H : Hp) : Prop := ∃ qb qe qs qt, H p = some (.lst [.ref qb, .ref qe, .ref qs, .ref qt]) ∧ H qb = some (.tup [.int m.b.1, .int m.b.2]) ∧ H qe = some (.tup [.int m.e.1, .int m.e.2]) ∧ H qs = some (.tup [.int m.s.1, .int m.s.2]) ∧ H qt = some (.tup [.int m.t.1, .int m.t.2])
theorem Times.ex {m : KT} {p : Addr} {H H' : Hp} (h : Times m p H) (e : Ex H H') : Times m p H' := by
  obtain ⟨a, b, c, d, h0, h1, h2, h3, h4⟩ := h
  exact ⟨a, b, c, d, e _ _ h0, e _ _ h1, e _ _ h2, e _ _ h3, e _ _ h4⟩
def spLow : Sp := fun vs H Q _ => ∃ n d : Int, vs = [.int n, .int d] ∧ 0 < d ∧ Sm 1900 n ∧ Sm 1900 d ∧ ∀ (t b : Int) (p : Addr) (H' : Hp), Norm n d t b → Ex H H' → H' p = some (.tup [.int t, .int b]) → Q (.ref p) H'
def spAddF (K : PySem.W.Frag) : Sp := fun vs H Q _ => ∃ (pa pb : Addr) (n1 d1 n2 d2 : Int), vs = [.ref pa, .ref pb] ∧ SqT K H pa [.int n1, .int d1] ∧ SqT K H pb [.int n2, .int d2] ∧ 0 < d1 ∧ 0 < d2 ∧ Sm 900 n1 ∧ Sm 900 d1 ∧ Sm 900 n2 ∧ Sm 900 d2 ∧
  ∀ (t b : Int) (p : Addr) (H' : Hp), Norm (n1 * d2 + n2 * d1) (d1 * d2) t b → Ex H H' → H' p = some (.tup [.int t, .int b]) → Q (.ref p) H'
def spUnder (K : PySem.W.Frag) : Sp := fun vs H Q _ => ∃ (pa pb : Addr) (n1 d1 n2 d2 : Int), vs = [.ref pa, .ref pb] ∧ SqT K H pa [.int n1, .int d1] ∧ SqT K H pb [.int n2, .int d2] ∧ Sm 900 n1 ∧ Sm 900 d1 ∧ Sm 900 n2 ∧ Sm 900 d2 ∧ Q (.bl (decide (n1 * d2 < n2 * d1))) H
def spValid : Sp := fun vs H Q _ => ∃ (p : Addr) (m : KT), vs = [.ref p] ∧ Times m p H ∧ m.Sz ∧ ∀ k : Bool, (k = true ↔ m.ok) → Q (.bl k) H
/-- a fraction passed as an int or as a moment -/
def Psd (C : Addr) (x : Int × Int) (i : Int) (v : V) (H : Hp) : Prop := (x.2 = 1 ∧ i = 1 ∧ v = .int x.1) ∨ (¬ (x.2 = 1 ∧ i = 1) ∧ Mo C x.1 x.2 v H)
theorem Psd.ex {C : Addr} {x : Int × Int} {i : Int} {v : V} {H H' : Hp} (h : Psd C x i v H) (e : Ex H H') : Psd C x i v H' := h.imp id fun h => ⟨h.1, h.2.ex e⟩
theorem Psd.ft {C : Addr} {x : Int × Int} {i : Int} {v : V} {H : Hp} (h : Psd C x i v H) (z : Fsz x) : FT C x v H := by
  refine ⟨?_, z.1.1, z.2.1.mono (by decide), z.2.2.mono (by decide)⟩
  rcases h with ⟨h1, _, h2⟩ | ⟨_, h⟩
  · exact .inr ⟨h2, h1⟩
  · exact .inl h
def spPassed (C : Addr) : Sp := fun vs H Q _ => ∃ (p : Addr) (x : Int × Int) (i : Int), vs = [.ref p, .int i] ∧ H p = some (.tup [.int x.1, .int x.2]) ∧ Fsz x ∧ ∀ v H', Ex H H' → Psd C x i v H' → Q v H'
/-- Mark(..) is called -/
theorem mark_rd {CM C CK : Addr} {m : KT} {xb xe xs xt : V} {H0 : Hp} {Q : VK} {E : XK} (hb : FT C m.b xb H0) (he : FT C m.e xe H0) (hs : (xs = .non ∧ m.s = m.b) ∨ FT C m.s xs H0) (ht : (xt = .non ∧ m.t = m.e) ∨ FT C m.t xt H0)
    (kE : ¬ m.ok → ∀ (dd : Addr) (fs : List (Str × V)) (H' : Hp), fs.lookup ("tone" : Str) = some (.int m.n) → fs.lookup ("begin" : Str) = some xb → fs.lookup ("end" : Str) = some xe → H' dd = some (.xd fs) → Ex H0 H' → E (.ref CK) (some dd) H')
    (kQ : m.ok → ∀ (v : V) (H' : Hp), Ex H0 H' → MkA CM C m v H' → Q v H') :
    ∀ x dx, H0 x = none → H0 dx = none → dx ≠ x → spMark CM C CK [.ref x, .int m.n, xb, xe, xs, xt] (upd (upd H0 dx (.own x)) x (.ins CM dx [])) (fun v H2 => v = .non ∧ Q (.ref x) H2) E := fun x dx n1 n2 n3 => by
  have e0 : Ex H0 (upd (upd H0 dx (.own x)) x (.ins CM dx [])) := fun q o h => by
    rw [upd_ne (ne_of_none h n1), upd_ne (ne_of_none h n2)]
    exact h
  refine ⟨x, dx, m, xb, xe, xs, xt, rfl, upd_same, hb.ex e0, he.ex e0, hs.imp id (fun h => h.ex e0), ht.imp id (fun h => h.ex e0), fun hn dd fs H' l1 l2 l3 h e => kE hn dd fs H' l1 l2 l3 h (e0.trans e), fun ho b e s t H' kp hp mb me ms mt => ⟨rfl, kQ ho _ H' (fun q o h => kp q o (e0 _ _ h) (ne_of_none h n1)) ⟨x, dx, b, e, s, t, rfl, hp, mb, me, ms, mt⟩⟩⟩
def spMarkL (CM C CK : Addr) : Sp := fun vs H Q E => ∃ (p : Addr) (m : KT) (i lf : Int), vs = [.int m.n, .ref p, .int i, .int lf] ∧ Times m p H ∧ m.Sz ∧ ((lf = 0 ∧ m.s = m.b ∧ m.t = m.e) ∨ (lf = 1 ∧ m.s = m.b) ∨ (lf = 2 ∧ m.t = m.e) ∨ lf = 3) ∧
  (m.ok → ∀ (v : V) (H' : Hp), Ex H H' → MkA CM C m v H' → Q v H') ∧
  (¬ m.ok → ∀ (dd : Addr) (fs : List (Str × V)) (xb xe : V) (H' : Hp), Ex H H' → Psd C m.b i xb H' → Psd C m.e i xe H' → fs.lookup ("tone" : Str) = some (.int m.n) → fs.lookup ("begin" : Str) = some xb → fs.lookup ("end" : Str) = some xe → H' dd = some (.xd fs) → E (.ref CK) (some dd) H')
theorem red_norm {n d t b : Int} (N : Norm n d t b) (r : Red n d) : t = n ∧ b = d := red_eq N.red r N.eq
/-- Mark(..) == -/
def KT.same (m m' : KT) : Prop := m = m'
def spKEq (CM C : Addr) : Sp := fun vs H Q _ => ∃ (x y : V) (m m' : KT), vs = [x, y] ∧ MkA CM C m x H ∧ MkA CM C m' y H ∧ m.Sz ∧ m'.Sz ∧ ∀ (k : Bool) (H' : Hp), (k = true ↔ m = m') → Ex H H' → Q (.bl k) H'
end Mo

namespace Mo
open PySem PyProof.Rows L2
open Evl (Ex)
theorem eqG_or {X : Cx} {n : Nat} {D D' : Eqv} (h : EqG X n D) (h' : EqG X n D') : EqG X n (fun x y H => D x y H ∨ D' x y H) := fun A pins s σ H x y u v sb I rx ry d => by
  rcases d with d | d
  · exact h A pins s σ H x y u v sb I rx ry d
  · exact h' A pins s σ H x y u v sb I rx ry d
theorem mon_or {D D' : Eqv} (h : Mon D) (h' : Mon D') : Mon (fun x y H => D x y H ∨ D' x y H) := fun x y H H' e d => d.imp (h x y H H' e) (h' x y H H' e)
/-- the same moment twice -/
def RMo (C : Addr) : Addr → Addr → Hp → Prop := fun a b H => ∃ t d : Int, Mo C t d (.ref a) H ∧ Mo C t d (.ref b) H
def DEl (C : Addr) : Eqv := fun x y H => DFlat x y H ∨ DIns C (RMo C) x y H
theorem mon_El {C : Addr} : Mon (DEl C) := mon_or mon_flat (mon_ins fun a b H H' e h => by
  obtain ⟨t, d, h1, h2⟩ := h
  exact ⟨t, d, h1.ex e, h2.ex e⟩)
theorem eq_imp {C : Addr} : ∀ vs H Q E, spEq (RMo C) vs H Q E → spEq2 C vs H Q E := fun vs H Q E h => by
  obtain ⟨a, b, rfl, ⟨t, d, h1, h2⟩, k⟩ := h
  exact ⟨_, _, t, d, rfl, h1, .inl ⟨t, d, h2, fun c H' e hc => by
    obtain rfl : c = true := hc.mpr ⟨rfl, rfl⟩
    exact k H' e⟩⟩
theorem op_eqEl {X : Cx} {C fE : Addr} {dE : FuncData} (heq : PySem.W.findIn X.K (.ref C) "__eq__" = some (some (.ref fE))) (heqf : PySem.W.isFn X.K (.ref fE) = true) (EF : FnOk X.prog X.w X.K X.mg X.base CX0 1 fE dE ["self", "other"] (spEq2 C)) (Eb : Binds X.K dE ["self", "other"] []) (hr : Room 2 X.A) :
    OpR X (compareOp .Eq) (rEqG (DList (DEl C))) := op_eqG (rcG_list mon_El (eqG_or (eqG_flat.mono (by decide)) (eqG_ins (EF.imp eq_imp) heq heqf Eb pass0))) hr
theorem psd_el {C : Addr} {x : Int × Int} {i : Int} {v v' : V} {H : Hp} (h : Psd C x i v H) (h' : Psd C x i v' H) : DEl C v v' H := by
  rcases h with ⟨a1, a2, rfl⟩ | ⟨a, h⟩
  · rcases h' with ⟨_, _, rfl⟩ | ⟨b, _⟩
    · exact .inl ⟨rfl, rfl, by simp [eqV]⟩
    · exact absurd ⟨a1, a2⟩ b
  · rcases h' with ⟨b1, b2, _⟩ | ⟨_, h'⟩
    · exact absurd ⟨b1, b2⟩ a
    · obtain ⟨p, d, rfl, e⟩ := id h
      obtain ⟨q, d', rfl, e'⟩ := id h'
      exact .inr ⟨p, q, _, _, _, _, rfl, rfl, e, e', _, _, h, h'⟩
theorem kt_ext {m m' : KT} : m = m' ↔ m.n = m'.n ∧ m.b = m'.b ∧ m.e = m'.e ∧ m.s = m'.s ∧ m.t = m'.t := by
  constructor
  · rintro rfl
    exact ⟨rfl, rfl, rfl, rfl, rfl⟩
  · obtain ⟨a, b, c, d, e⟩ := m
    obtain ⟨a', b', c', d', e'⟩ := m'
    rintro ⟨rfl, rfl, rfl, rfl, rfl⟩
    rfl
def spKEq2 (CM C : Addr) : Sp := fun vs H Q _ => ∃ (x y : V) (m m' : KT), vs = [x, y] ∧ MkA CM C m x H ∧ MkA CM C m' y H ∧ ∀ (k : Bool) (H' : Hp), (k = true ↔ m = m') → Ex H H' → Q (.bl k) H'
theorem kf_tone {n : Int} {b e s t : V} : (kF n b e s t).lookup ("tone" : Str) = some (.int n) := by rw [kF_look, if_neg (by decide +kernel), if_neg (by decide +kernel), if_neg (by decide +kernel), if_neg (by decide +kernel), if_pos rfl]
theorem kf_begin {n : Int} {b e s t : V} : (kF n b e s t).lookup ("begin" : Str) = some b := by rw [kF_look, if_neg (by decide +kernel), if_neg (by decide +kernel), if_neg (by decide +kernel), if_pos rfl]
theorem kf_end {n : Int} {b e s t : V} : (kF n b e s t).lookup ("end" : Str) = some e := by rw [kF_look, if_neg (by decide +kernel), if_neg (by decide +kernel), if_pos rfl]
theorem kf_start {n : Int} {b e s t : V} : (kF n b e s t).lookup ("start" : Str) = some s := by rw [kF_look, if_neg (by decide +kernel), if_pos rfl]
theorem kf_stop {n : Int} {b e s t : V} : (kF n b e s t).lookup ("stop" : Str) = some t := by rw [kF_look, if_pos rfl]
/-- what _law_tried tells -/
def spTried (CM C : Addr) : Sp := fun vs H Q _ => ∃ (p : Addr) (m : KT) (i lf : Int), vs = [.int m.n, .ref p, .int i, .int lf] ∧ Times m p H ∧ m.Sz ∧ ((lf = 0 ∧ m.s = m.b ∧ m.t = m.e) ∨ (lf = 1 ∧ m.s = m.b) ∨ (lf = 2 ∧ m.t = m.e) ∨ lf = 3) ∧
  ∀ (q : Addr) (v : V) (H' : Hp), Ex H H' → H' q = some (.tup [.bl true, v]) → ((m.ok ∧ MkA CM C m v H') ∨ (¬ m.ok ∧ v = .non)) → Q (.ref q) H'
theorem Fsz.hold {x : Int × Int} (h : Fsz x) : Sm 4000 x.1 ∧ Sm 4000 x.2 := ⟨h.2.1.mono (by decide), h.2.2.mono (by decide)⟩
end Mo

namespace Mo
open PySem PyProof.Rows L2
open Evl (Ex)
theorem MkA.nn {CM C : Addr} {m : KT} {v : V} {H : Hp} (h : MkA CM C m v H) : v ≠ .non := fun z => by
  obtain ⟨a, dx, b, e, s, t, h0, _⟩ := h
  rw [h0] at z
  cases z
theorem MkA.isC {CM C : Addr} {m : KT} {v : V} {H : Hp} (h : MkA CM C m v H) : IsC CM v H := by
  obtain ⟨a, dx, b, e, s, t, h0, h1, _⟩ := h
  exact ⟨a, dx, _, h0, h1⟩
theorem MkA.par {CM C : Addr} {m : KT} {v : V} {H : Hp} (h : MkA CM C m v H) : Par CM H v := by
  obtain ⟨a, dx, b, e, s, t, rfl, h1, _⟩ := h
  exact .ins h1
def F80 (x : Int × Int) : Prop := Red x.1 x.2 ∧ Sm 80 x.1 ∧ Sm 80 x.2
theorem F80.fsz {x : Int × Int} (h : F80 x) : Fsz x := ⟨h.1, h.2.1.mono (by decide), h.2.2.mono (by decide)⟩
theorem tupK {H : Hp} {q l : Addr} {xs ys zs : List V} (h : H q = some (.tup xs)) (e : H l = some (.lst ys)) : L2.upd H l (.lst zs) q = some (.tup xs) := by
  have : q ≠ l := fun w => by
    rw [w, e] at h
    cases h
  rw [upd_ne this]
  exact h
def dTimes (m : KT) : PyData := .list [.tuple [.int m.b.1, .int m.b.2], .tuple [.int m.e.1, .int m.e.2], .tuple [.int m.s.1, .int m.s.2], .tuple [.int m.t.1, .int m.t.2]]
theorem dp_times {K : PySem.W.Frag} {m : KT} {p : Addr} {H : Hp} (h : Times m p H) : Dp K H (.ref p) (dTimes m) := by
  obtain ⟨a, b, c, d, h0, h1, h2, h3, h4⟩ := h
  have two : ∀ (i j : Int), DpAll K H [V.int i, V.int j] [.int i, .int j] := fun i j => .cons (.int i) (.cons (.int j) .nil)
  exact .lst (SqL.of h0) (.cons (.tup (SqT.of h1) (two _ _)) (.cons (.tup (SqT.of h2) (two _ _)) (.cons (.tup (SqT.of h3) (two _ _)) (.cons (.tup (SqT.of h4) (two _ _)) .nil))))
theorem eqv_times {m m' : KT} : PyData.eqv (dTimes m) (dTimes m') = true ↔ m.b = m'.b ∧ m.e = m'.e ∧ m.s = m'.s ∧ m.t = m'.t := by
  simp [dTimes, PyData.eqv, PyData.eqvAll, Prod.ext_iff]
/-- a list of pairs that are fractions in lowest terms -/
inductive PrL : List V → List (Int × Int) → Hp → Prop where
  | nil {H : Hp} : PrL [] [] H
  | cons {q : Addr} {x : Int × Int} {xs : List V} {fs : List (Int × Int)} {H : Hp} (h : H q = some (.tup [.int x.1, .int x.2])) (z : F80 x) (t : PrL xs fs H) : PrL (.ref q :: xs) (x :: fs) H
theorem PrL.ex : ∀ {xs : List V} {fs : List (Int × Int)} {H H' : Hp}, PrL xs fs H → Ex H H' → PrL xs fs H'
  | _, _, _, _, .nil, _ => .nil
  | _, _, _, _, .cons h z t, e => .cons (e _ _ h) z (t.ex e)
theorem PrL.len : ∀ {xs : List V} {fs : List (Int × Int)} {H : Hp}, PrL xs fs H → xs.length = fs.length
  | _, _, _, .nil => rfl
  | _, _, _, .cons h z t => by rw [List.length_cons, List.length_cons, t.len]
theorem PrL.snoc : ∀ {xs : List V} {fs : List (Int × Int)} {H : Hp} {q : Addr} {x : Int × Int}, PrL xs fs H → H q = some (.tup [.int x.1, .int x.2]) → F80 x → PrL (xs ++ [.ref q]) (fs ++ [x]) H
  | _, _, _, _, _, .nil, h, z => .cons h z .nil
  | _, _, _, _, _, .cons h z t, h', z' => .cons h z (t.snoc h' z')
theorem PrL.upd : ∀ {xs : List V} {fs : List (Int × Int)} {H : Hp} {l : Addr} {ys zs : List V}, PrL xs fs H → H l = some (.lst ys) → PrL xs fs (L2.upd H l (.lst zs))
  | _, _, _, _, _, _, .nil, _ => .nil
  | _, _, _, l, _, _, .cons (q := q) h z t, e => .cons (by
      have : q ≠ l := fun w => by
        rw [w, e] at h
        cases h
      rw [upd_ne this]
      exact h) z (t.upd e)
theorem PrL.get : ∀ {xs : List V} {fs : List (Int × Int)} {H : Hp} {i : Nat} {x : V}, PrL xs fs H → xs[i]? = some x → ∃ q y, x = .ref q ∧ fs[i]? = some y ∧ H q = some (.tup [.int y.1, .int y.2]) ∧ F80 y
  | _, _, _, 0, _, .cons h z t, e => by cases e; exact ⟨_, _, rfl, rfl, h, z⟩
  | _, _, _, i + 1, _, .cons h z t, e => t.get (i := i) e
theorem PrL.four {xs : List V} {fs : List (Int × Int)} {H : Hp} (h : PrL xs fs H) (l : fs.length = 4) : ∃ (q0 q1 q2 q3 : Addr) (x0 x1 x2 x3 : Int × Int), xs = [.ref q0, .ref q1, .ref q2, .ref q3] ∧ fs = [x0, x1, x2, x3] ∧
    H q0 = some (.tup [.int x0.1, .int x0.2]) ∧ H q1 = some (.tup [.int x1.1, .int x1.2]) ∧ H q2 = some (.tup [.int x2.1, .int x2.2]) ∧ H q3 = some (.tup [.int x3.1, .int x3.2]) ∧ F80 x0 ∧ F80 x1 ∧ F80 x2 ∧ F80 x3 := by
  cases h with
  | nil => cases l
  | cons h0 z0 t =>
    cases t with
    | nil => simp at l
    | cons h1 z1 t =>
      cases t with
      | nil => simp at l
      | cons h2 z2 t =>
        cases t with
        | nil => simp at l
        | cons h3 z3 t =>
          cases t with
          | nil => exact ⟨_, _, _, _, _, _, _, _, rfl, rfl, h0, h1, h2, h3, z0, z1, z2, z3⟩
          | cons h4 z4 t => simp at l
theorem tyes_if {σ : L2.St} {H : Hp} {A B : Hp → Prop} (h : A H) : tYes σ H (fun b H3 => if b = true then A H3 else B H3) := by
  show (if true = true then A H else B H)
  exact L2.iteT h
theorem ten_of {ys : List Int} (h : ys.length = 10) : ∃ a b c d e f g i j k, ys = [a, b, c, d, e, f, g, i, j, k] := match ys, h with | [a, b, c, d, e, f, g, i, j, k], _ => ⟨a, b, c, d, e, f, g, i, j, k, rfl⟩
theorem fsz_of {n d t b : Int} {k j : Nat} (N : Norm n d t b) (hn : Sm k n) (hd : Sm j d) (hk : k ≤ 80) (hj : j ≤ 80) : F80 (t, b) := ⟨N.red, (N.st hn).mono hk, (N.sb hd).mono hj⟩
end Mo

namespace Mo
open PySem L2 TL PySem.Builtin.Str
/-! ### the signs of numbers -/
def numT (z : Int) : List Nat := if z < 0 then 45 :: numL z.natAbs else numL z.natAbs
theorem tl_int (z : Int) : tl (Str.ofString (toString z)) = numT z := by
  cases z with
  | ofNat m =>
    rw [show numT (Int.ofNat m) = numL m from if_neg (by simp)]
    exact tl_num m
  | negSucc m =>
    rw [show numT (Int.negSucc m) = 45 :: numL (m + 1) from if_pos (by simp)]
    rw [tl_ofString]
    show (("-" ++ toString (m + 1) : String).toList).map Char.toNat = _
    rw [String.toList_append, List.map_append]
    have e := tl_num (m + 1)
    rw [tl_ofString] at e
    show [45] ++ _ = _
    rw [show (toString ((m + 1 : Nat) : Int)) = toString (m + 1) from rfl] at e
    rw [e]
    rfl
def pad0 (k : Nat) (l : List Nat) : List Nat := List.replicate (k - l.length) 48 ++ l
theorem numL_block : ∀ (k q m : Nat), 1 ≤ k → 1 ≤ q → m < 10 ^ k → numL (q * 10 ^ k + m) = numL q ++ pad0 k (numL m)
  | 0, _, _, h, _, _ => absurd h (by decide)
  | 1, q, m, _, hq, hm => by
    have hm : m < 10 := by simpa using hm
    rw [Nat.pow_one, numL_step (by omega), show (q * 10 + m) / 10 = q by omega, show (q * 10 + m) % 10 = m by omega, numL_lt hm]
    rfl
  | k + 2, q, m, _, hq, hm => by
    have hp : 0 < 10 ^ (k + 1) := Nat.pow_pos (by decide)
    have e : q * 10 ^ (k + 2) + m = (q * 10 ^ (k + 1) + m / 10) * 10 + m % 10 := by
      rw [Nat.pow_succ 10 (k + 1), Nat.add_mul, ← Nat.mul_assoc]
      omega
    have h10 : 10 ≤ q * 10 ^ (k + 2) + m := by
      have : 1 * 10 ^ (k + 2) ≤ q * 10 ^ (k + 2) := Nat.mul_le_mul_right _ hq
      rw [Nat.pow_succ 10 (k + 1)] at this
      rw [Nat.pow_succ 10 (k + 1)]
      omega
    have hm' : m / 10 < 10 ^ (k + 1) := by
      rw [Nat.pow_succ] at hm
      omega
    have l := numL_len (n := m / 10) (k := k + 1) (by omega) hm'
    rw [numL_step h10, e, show ((q * 10 ^ (k + 1) + m / 10) * 10 + m % 10) / 10 = q * 10 ^ (k + 1) + m / 10 by omega, show ((q * 10 ^ (k + 1) + m / 10) * 10 + m % 10) % 10 = m % 10 by omega,
      numL_block (k + 1) q (m / 10) (by omega) hq hm', List.append_assoc]
    congr 1
    unfold pad0
    by_cases h : m < 10
    · rw [numL_lt h, show m / 10 = 0 by omega, numL_lt (show 0 < 10 by decide), show m % 10 = m by omega]
      show List.replicate (k + 1 - 1) 48 ++ [48] ++ [48 + m] = List.replicate (k + 2 - 1) 48 ++ [48 + m]
      rw [← List.replicate_succ']
      rfl
    · rw [numL_step (n := m) (by omega), List.length_append, List.length_singleton, ← List.append_assoc, show k + 2 - ((numL (m / 10)).length + 1) = k + 1 - (numL (m / 10)).length by omega]
theorem zfill_tl {a : Str} {n : Int} {k : Nat} (hn : n = (k : Int)) (hd : NumText.AllDigits (tl a)) (hl : (tl a).length ≤ k) : tl (Txt.zfill a n) = pad0 k (tl a) := by
  subst hn
  have la := len_tl a
  unfold Txt.zfill
  by_cases h : (k : Int) ≤ (a.length : Int)
  · rw [if_pos h]
    unfold pad0
    rw [show k - (tl a).length = 0 by omega]
    rfl
  · rw [if_neg h]
    unfold zfilled
    have h0 : a.cps[0]? ≠ some 43 ∧ a.cps[0]? ≠ some 45 := by
      have : ∀ c, a.cps[0]? = some c → 48 ≤ c ∧ c ≤ 57 := fun c e => hd c (by
        rw [← Array.getElem?_toList] at e
        exact List.mem_of_getElem? e)
      constructor <;> intro e <;> have := this _ e <;> omega
    have e : tl (padded a ((k : Int).toNat - a.length) 0 48) = pad0 k (tl a) := by
      unfold padded pad0 tl
      simp [la, tl]
    split
    · rename_i q
      exact absurd q h0.1
    · rename_i q
      exact absurd q h0.2
    · exact e
/-! ### canonical digits -/
theorem digits_lt : ∀ (l : List Nat), NumText.AllDigits l → NumText.digitsVal l < 10 ^ l.length := by
  suffices h : ∀ (n : Nat) (l : List Nat), l.length = n → NumText.AllDigits l → NumText.digitsVal l < 10 ^ l.length from fun l => h _ l rfl
  intro n
  induction n with
  | zero =>
    intro l hl _
    rw [List.length_eq_zero_iff.mp hl]
    decide
  | succ n ih =>
    intro l hl hd
    have hne : l ≠ [] := by intro e; rw [e] at hl; cases hl
    have e := List.dropLast_concat_getLast hne
    generalize l.dropLast = ini at e
    generalize l.getLast hne = c at e
    subst e
    have hc := hd c (List.mem_append_right _ (List.mem_singleton.mpr rfl))
    have hi := ih ini (by rw [List.length_append, List.length_singleton] at hl; omega) (fun d hd' => hd d (List.mem_append_left _ hd'))
    rw [NumText.digitsVal_snoc, List.length_append, List.length_singleton, Nat.pow_succ]
    omega
theorem numL_canon {l : List Nat} (hd : NumText.AllDigits l) (hne : l ≠ []) (hc : l.head? ≠ some 48 ∨ l = [48]) : numL (NumText.digitsVal l) = l := by
  cases l with
  | nil => exact absurd rfl hne
  | cons c r =>
    unfold numL
    rw [NumText.toDigits_digitsVal r.length (c :: r) rfl hd ?_]
    · rw [List.map_map]
      refine (List.map_congr_left fun d hd' => ?_).trans (List.map_id _)
      have := hd d hd'
      show (Char.ofNat d).toNat = d
      exact (by decide : ∀ n : _root_.Fin 58, (Char.ofNat n.val).toNat = n.val) ⟨d, by omega⟩
    · rcases hc with hc | hc
      · right
        have := hd c List.mem_cons_self
        refine ⟨c, r, rfl, ?_⟩
        have : c ≠ 48 := fun e => hc (by rw [e]; rfl)
        omega
      · left
        injection hc with _ h
        rw [h]
        rfl
theorem canon_numL {l : List Nat} (hd : NumText.AllDigits l) (h : numL (NumText.digitsVal l) = l) : l.head? ≠ some 48 ∨ l = [48] := by
  cases l with
  | nil => left; intro z; cases z
  | cons c r =>
    by_cases e : c = 48
    · subst e
      right
      cases r with
      | nil => rfl
      | cons d r =>
        exfalso
        have hd' : NumText.AllDigits (d :: r) := hd.tail
        rw [NumText.digitsVal_zero] at h
        have l1 := numL_len (n := NumText.digitsVal (d :: r)) (k := (d :: r).length) (by simp) (digits_lt _ hd')
        rw [h] at l1
        simp at l1
        omega
    · left
      intro z
      injection z with z
      exact e z
/-! ### texts of moments -/
theorem numT_free (z : Int) : 47 ∉ numT z := by
  unfold numT
  split
  · intro h
    rcases List.mem_cons.mp h with h | h
    · cases h
    · exact numL_free (by omega) h
  · exact numL_free (by omega)
theorem numT_ne (z : Int) : numT z ≠ [] := by
  unfold numT
  split
  · intro h; cases h
  · exact numL_ne _
/-- at most 60 digits, at least one -/
def Nm (l : List Nat) : Prop := l.length ≤ 60 ∧ l ≠ [] ∧ NumText.AllDigits l
/-- without its sign -/
def bare : List Nat → List Nat
  | 45 :: r => r
  | l => l
/-- the int that such a text says -/
def sval : List Nat → Int
  | 45 :: r => -((NumText.digitsVal r : Nat) : Int)
  | l => ((NumText.digitsVal l : Nat) : Int)
theorem bare_digits {l : List Nat} (h : NumText.AllDigits l) : bare l = l := by
  unfold bare
  split
  · have := h 45 List.mem_cons_self
    omega
  · rfl
theorem sval_digits {l : List Nat} (h : NumText.AllDigits l) : sval l = ((NumText.digitsVal l : Nat) : Int) := by
  unfold sval
  split
  · have := h 45 List.mem_cons_self
    omega
  · rfl
/-- what the law takes for a number; s: a sign may stand -/
def LN (s : Bool) (l : List Nat) : Prop := ∃ d, d = (if s = true ∧ l.take 1 = [45] then l.drop 1 else l) ∧ Nm d ∧ (d.head? ≠ some 48 ∨ l = [48])
theorem LN.bare {s : Bool} {l : List Nat} (h : LN s l) : Nm (bare l) := by
  obtain ⟨d, e, hn, _⟩ := h
  split at e
  · rename_i c
    cases l with
    | nil => cases c.2
    | cons a r =>
      have : a = 45 := by have := c.2; simpa using this
      subst this
      subst e
      exact hn
  · subst e
    rw [bare_digits hn.2.2]
    exact hn
theorem LN.digits {l : List Nat} (h : LN false l) : Nm l := by
  obtain ⟨d, e, hn, _⟩ := h
  rw [if_neg (fun z => Bool.noConfusion z.1)] at e
  subst e
  exact hn
theorem numT_iff {l : List Nat} (h : Nm (bare l)) : numT (sval l) = l ↔ LN true l := by
  by_cases c : ∃ r, l = 45 :: r
  · obtain ⟨r, rfl⟩ := c
    have hn : Nm r := h
    have es : sval (45 :: r) = -((NumText.digitsVal r : Nat) : Int) := rfl
    constructor
    · intro e
      refine ⟨r, by rw [if_pos ⟨rfl, rfl⟩]; rfl, hn, ?_⟩
      left
      rw [es] at e
      unfold numT at e
      split at e
      · rename_i hz
        injection e with _ e
        rw [show (-((NumText.digitsVal r : Nat) : Int)).natAbs = NumText.digitsVal r by omega] at e
        rcases canon_numL hn.2.2 e with z | z
        · exact z
        · subst z
          exact absurd hz (by decide)
      · exfalso
        have := numL_digits (-((NumText.digitsVal r : Nat) : Int)).natAbs 45 (by rw [e]; exact List.mem_cons_self)
        omega
    · rintro ⟨d, ed, _, hc⟩
      rw [if_pos ⟨rfl, rfl⟩] at ed
      have ed : d = r := ed
      subst ed
      have hc : d.head? ≠ some 48 := hc.resolve_right (by intro z; cases z)
      have hp : 0 < NumText.digitsVal d := by
        cases d with
        | nil => exact absurd rfl hn.2.1
        | cons a q =>
          have := hn.2.2 a List.mem_cons_self
          refine NumText.digitsVal_pos ?_
          have : a ≠ 48 := fun z => hc (by rw [z]; rfl)
          omega
      rw [es]
      unfold numT
      rw [if_pos (by omega), show (-((NumText.digitsVal d : Nat) : Int)).natAbs = NumText.digitsVal d by omega, numL_canon hn.2.2 hn.2.1 (.inl hc)]
  · have eb : bare l = l := by
      unfold Mo.bare
      split
      · exact absurd ⟨_, rfl⟩ c
      · rfl
    rw [eb] at h
    have es := sval_digits h.2.2
    have ht : l.take 1 ≠ [45] := by
      intro z
      cases l with
      | nil => cases z
      | cons a r => exact c ⟨r, by have : a = 45 := by simpa using z
                                   rw [this]⟩
    have en : numT (sval l) = numL (NumText.digitsVal l) := by
      rw [es]
      unfold numT
      rw [if_neg (by omega)]
      rfl
    rw [en]
    constructor
    · intro e
      exact ⟨l, by rw [if_neg (fun z => ht z.2)], h, canon_numL h.2.2 e⟩
    · rintro ⟨d, ed, _, hc⟩
      rw [if_neg (fun z => ht z.2)] at ed
      subst ed
      exact numL_canon h.2.2 h.2.1 hc
theorem numL_iff {l : List Nat} (h : Nm l) : numL (NumText.digitsVal l) = l ↔ LN false l := by
  constructor
  · intro e
    exact ⟨l, by rw [if_neg (fun z => Bool.noConfusion z.1)], h, canon_numL h.2.2 e⟩
  · rintro ⟨d, ed, _, hc⟩
    rw [if_neg (fun z => Bool.noConfusion z.1)] at ed
    subst ed
    exact numL_canon h.2.2 h.2.1 hc
/-- str(moment) -/
def strM (t b : Int) : List Nat := if b = 1 then numT t else numT t ++ 47 :: numT b
/-- a text is the text of a moment -/
def Written (l : List Nat) : Prop := (47 ∉ l ∧ LN true l) ∨ ∃ x y, l = x ++ 47 :: y ∧ 47 ∉ x ∧ LN true x ∧ LN false y ∧ 1 < NumText.digitsVal y ∧ Int.gcd (sval x) (NumText.digitsVal y : Int) = 1
/-- the fraction that it writes -/
def Frac (l : List Nat) (n d : Int) : Prop := (47 ∉ l ∧ n = sval l ∧ d = 1) ∨ ∃ x y, l = x ++ 47 :: y ∧ 47 ∉ x ∧ n = sval x ∧ d = ((NumText.digitsVal y : Nat) : Int)
theorem cut_eq {x y x' y' : List Nat} (h : x ++ 47 :: y = x' ++ 47 :: y') (h1 : 47 ∉ x) (h2 : 47 ∉ x') : x = x' ∧ y = y' := by
  induction x generalizing x' with
  | nil =>
    cases x' with
    | nil => exact ⟨rfl, by injection h⟩
    | cons a r =>
      injection h with e _
      exact absurd (by rw [← e]; exact List.mem_cons_self) h2
  | cons a r ih =>
    cases x' with
    | nil =>
      injection h with e _
      exact absurd (by rw [e]; exact List.mem_cons_self) h1
    | cons a' r' =>
      injection h with e e'
      obtain ⟨z1, z2⟩ := ih e' (fun z => h1 (List.mem_cons_of_mem _ z)) (fun z => h2 (List.mem_cons_of_mem _ z))
      exact ⟨by rw [e, z1], z2⟩
theorem sval_size {l : List Nat} (h : Nm (bare l)) : (sval l).natAbs < 10 ^ 60 := by
  have k : ∀ r : List Nat, Nm r → NumText.digitsVal r < 10 ^ 60 := fun r hr => Nat.lt_of_lt_of_le (digits_lt r hr.2.2) (Nat.pow_le_pow_right (by decide) hr.1)
  unfold sval
  split
  · rename_i r
    have := k r h
    omega
  · rename_i hn
    have e : bare l = l := by
      unfold bare
      split
      · exact absurd rfl (hn _)
      · rfl
    rw [e] at h
    have := k _ h
    omega
theorem val_size {l : List Nat} (h : Nm l) : NumText.digitsVal l < 10 ^ 60 := Nat.lt_of_lt_of_le (digits_lt l h.2.2) (Nat.pow_le_pow_right (by decide) h.1)
theorem norm_same {n d t b : Int} (N : Norm n d t b) (hd : 0 < d) : (t = n ∧ b = d) ↔ Int.gcd n d = 1 := by
  constructor
  · rintro ⟨rfl, rfl⟩
    exact N.gcd
  · intro h
    exact red_eq N.red ⟨hd, h⟩ N.eq
/-- read: no slash -/
theorem read_plain {l : List Nat} (hs : 47 ∉ l) (h : Nm (bare l)) : strM (sval l) 1 = l ↔ Written l := by
  unfold strM
  rw [if_pos rfl, numT_iff h]
  constructor
  · intro z
    exact .inl ⟨hs, z⟩
  · rintro (z | ⟨x, y, e, _⟩)
    · exact z.2
    · exact absurd (by rw [e]; simp) hs
/-- read: with a slash -/
theorem read_frac {x y : List Nat} {t b : Int} (hs : 47 ∉ x) (hx : Nm (bare x)) (hy : Nm y) (hp : 0 < NumText.digitsVal y) (N : Norm (sval x) (NumText.digitsVal y : Int) t b) : strM t b = x ++ 47 :: y ↔ Written (x ++ 47 :: y) := by
  constructor
  · intro e
    unfold strM at e
    split at e
    · exact absurd (by rw [e]; simp) (numT_free t)
    · rename_i hb
      obtain ⟨e1, e2⟩ := cut_eq e (numT_free t) hs
      have hbp := N.pos
      have eb : numT b = numL b.natAbs := if_neg (by omega)
      rw [eb] at e2
      have vb : NumText.digitsVal y = b.natAbs := by rw [← e2, numL_val]
      have ex : sval x = t := by
        rw [← e1]
        unfold numT
        split
        · show -((NumText.digitsVal (numL t.natAbs) : Nat) : Int) = t
          rw [numL_val]
          omega
        · rw [sval_digits (numL_digits _), numL_val]
          omega
      refine .inr ⟨x, y, rfl, hs, (numT_iff hx).mp (by rw [ex, e1]), (numL_iff hy).mp (by rw [vb, e2]), by omega, ?_⟩
      exact (norm_same N (by omega)).mp ⟨ex.symm, by omega⟩
  · rintro (⟨z, _⟩ | ⟨x', y', e, hs', l1, l2, h1, hg⟩)
    · exact absurd (by simp) z
    · obtain ⟨rfl, rfl⟩ := cut_eq e hs hs'
      obtain ⟨rfl, rfl⟩ := (norm_same N (by omega)).mpr hg
      unfold strM
      rw [if_neg (by omega), (numT_iff hx).mpr l1]
      show x ++ 47 :: numT _ = _
      unfold numT
      rw [if_neg (by omega)]
      show x ++ 47 :: numL (NumText.digitsVal y) = _
      rw [(numL_iff hy).mpr l2]
theorem not_plain {l : List Nat} (hs : 47 ∉ l) (h : ¬ Nm (bare l)) : ¬ Written l := by
  rintro (z | ⟨x, y, e, _⟩)
  · exact h z.2.bare
  · exact hs (by rw [e]; simp)
theorem not_frac {x y : List Nat} (hs : 47 ∉ x) (h : ¬ (Nm (bare x) ∧ Nm y ∧ 0 < NumText.digitsVal y)) : ¬ Written (x ++ 47 :: y) := by
  rintro (⟨z, _⟩ | ⟨x', y', e, hs', l1, l2, h1, _⟩)
  · exact z (by simp)
  · obtain ⟨rfl, rfl⟩ := cut_eq e hs hs'
    exact h ⟨l1.bare, l2.digits, by omega⟩
theorem split47 (l : List Nat) : 47 ∉ l ∨ ∃ x y, l = x ++ 47 :: y ∧ 47 ∉ x := by
  induction l with
  | nil => exact .inl (by simp)
  | cons a r ih =>
    by_cases h : a = 47
    · exact .inr ⟨[], r, by rw [h]; rfl, by simp⟩
    · rcases ih with ih | ⟨x, y, e, hx⟩
      · exact .inl (by simp [ih]; omega)
      · exact .inr ⟨a :: x, y, by rw [e]; rfl, by simp [hx]; omega⟩
end Mo

namespace Mo
open PySem L2 ClX
/-- C.m is a staticmethod: its record at p, its def at g -/
structure CSt (K : PySem.W.Frag) (C : Addr) (mc : Value) (m : Str) (p g : Addr) : Prop where
  at_ : PySem.W.findCls K (.ref C) mc m = some (.get (.builtin "staticmethod.__get__") (.ref p) .none (.ref C))
  rc : ∃ rest, PySem.W.recIn K p "staticmethod" = some (.ref g :: rest)
  kp : PySem.W.keepIn K (.ref g) = true
section
variable {X : Cx} {CX : CXT} {k : Nat} {C p g : Addr} {mc : Value} {fd : FuncData} {ps : List Str} {sp : Sp} {E : L2.St → XK} {o e : Expr} {es : List Expr} {m : Str} {pos apos : Pos} {ta : TE} {t : TA} {pl : Sem Bool} {dvs : List V} {ds : List Value}
theorem getst_ok {pins : List (Addr × Obj)} {σ : L2.St} {H : Hp} {s : Shared} {A : Around} {E : Value → Shared → Prop} {b : Bool} {Q : Value → Shared → Prop} (I : Inv X pins σ H s) (r : CRead X.K C mc) (k : CSt X.K C mc m p g)
    (h : ∀ s', Inv X pins σ H s' → Q (.ref g) s') : wpAny (model X.prog X.w) A (getAttr (.ref C) m b) Q E s := by
  obtain ⟨rest, hp⟩ := k.rc
  refine PySem.W.cls_bind I.kIn r.rd k.at_ ?_
  refine wpAny_call (PySem.W.sm_get (s := { s with toks := s.toks + 1 }) I.kIn hp (PySem.W.handed_on rfl ?_))
  exact h _ (I.tok _)
/-- C.m(e, ..), m a staticmethod -/
def tSt (C : Addr) (sp : Sp) (dvs : List V) (E : L2.St → XK) (ta : TE) (t : TA) : TE := fun σ H Q => ta σ H fun x H1 => x = .ref C ∧ t σ H1 fun vs H2 => sp (vs ++ dvs) H2 Q (E σ)
theorem pe_smS (he : PE X o ta) (r : CRead X.K C mc) (c : CSt X.K C mc m p g) (F : FnOk X.prog X.w X.K X.mg X.base CX k g fd ps sp) (hr : Room k X.A) (hb : Binds X.K fd ps ds) (hd : Vals dvs ds) (hx : ∀ σ, PassesAt CX X σ (E σ)) (ha : PA X (e :: es) t)
    (hst : starEach (e :: es) X.env = (false, eval e X.env) :: starEach es X.env := by rfl) (hpl : (backTo pos (starEach es X.env)).any (·.1) = false := by rfl)
    (ht : eval (.Call (.Attribute o m apos) (e :: es) [] pos) X.env = (do
      let ov ← eval o X.env
      standAt apos.atName
      let (f, first) ← holding [ov] (getMethod ov m pl)
      callWith pos f first (backTo pos (starEach (e :: es) X.env)) (backToKw pos (keywordEach [] X.env))) := by rfl) :
    PE X (.Call (.Attribute o m apos) (e :: es) [] pos) (tSt C sp dvs E ta t) := by
  refine ⟨fun pins s σ H Q I h => ?_⟩
  refine PySem.W.methodCall_KW (pl := pl) (thn (he.run pins s σ H _ I h) fun u s1 ⟨x, H1, I1, rx, ex, q⟩ => ?_) ht
  subst ex
  obtain rfl : u = Value.ref C := rx
  refine PySem.W.method_cls I1.kIn r.ga (getst_ok I1 r c fun s2 I2 => ?_)
  refine PySem.W.callWith_K (h₀ := X.base) I2.ok.mod.kin c.kp (thn (ha.run pos pins s2 σ H1 _ I2 q) fun us s3 ⟨vs, H2, I3, rv, q2⟩ => ⟨I3.kIn, ?_⟩) hst hpl
  exact run_fnSD F hr hb hd (hx σ) I3 rv q2
end
section
variable {X : Cx} {CX : CXT} {n k : Nat} {f C : Addr} {fd : FuncData} {ps : List Str} {sp : Sp} {E : XK}
/-- str(x) by the class's own method -/
def rStrA (C : Addr) (sp : Sp) (E : XK) : List V → Hp → VK → Prop := fun vs H Q => ∃ x, vs = [x] ∧ IsC C x H ∧ sp [x] H (fun v H' => ∃ z, v = .str z ∧ Q (.str z) H') E
theorem str_own (hs : PySem.W.findIn X.K (.ref C) "__str__" = some (some (.ref f))) (hf : PySem.W.isFn X.K (.ref f) = true) (F : FnOk X.prog X.w X.K X.mg X.base CX n f fd ps sp) (hr : Room (n + 2) X.A) (hb : Binds X.K fd ps []) (hx : Passes CX X E) : CallR X (.type "str") (rStrA C sp E) := by
  intro pins s σ H vs us Q I r h
  obtain ⟨x, rfl, ⟨a, dx, fs, rfl, ha⟩, q⟩ := h
  obtain ⟨u, rfl, ru⟩ := vals1 r
  cases ru
  obtain ⟨mA, J, _⟩ := ins_get I.hok ha
  obtain ⟨od, J, _⟩ := J.look
  have z := run_any (Q := fun v H' => ∃ z, v = .str z ∧ Q (.str z) H') F hr.in1.in1 rfl hb hx I (v1r a) q
  refine PySem.W.kso_call hr.in1.in1.units0 I.kIn J hs hf (wpAny_mono z (fun v s' y => ?_) fun _ _ e => e)
  obtain ⟨v', H', I', ry, z, rfl, q'⟩ := y
  obtain ⟨t, rfl⟩ := ry
  exact ⟨.str z, H', I', ⟨_, rfl⟩, q'⟩
end
end Mo

namespace Mo
open PySem L2
open Evl (Ex)
def top (i : Nat) : Stmt := PySem.Challenge.pw_anytune_k07_texts_of_moments.main.body.getD i (.Pass ⟨0, 0, 0, 0⟩)
structure Txt (K : PySem.W.Frag) (mg : Str → Option Value) (C : Addr) : Prop where
  len : mg "len" = none
  abs : mg "abs" = none
  int : mg "int" = none
  bool : mg "bool" = none
  isi : mg "isinstance" = none
  range : mg "range" = none
  gcd : mg "gcd" = some (.builtin "math.gcd")
  mgC : mg "Moment" = some (.ref C)
  cl : Cls K C
  nT : NoAttr K C "top"
  nB : NoAttr K C "bottom"
  cls : PySem.W.findIn K (.ref C) "__class__" = some (some (.builtin "object.__class__"))
  clg : PySem.W.specialIn K (.builtin "object.__class__") "__get__" = some (some (.builtin "getset_descriptor.__get__"))
  clt : PySem.W.takesIn K (.builtin "object.__class__") = some true
  obj : PySem.W.mroIn K C (.type "object") = some true
  isC : PySem.W.kitOne K (.ref C) (.ref C) = some true
  isI : PySem.W.kitOne K (.ref C) (.type "int") = some false
  iI : PySem.W.kitOne K (.type "int") (.ref C) = some false
  lst : mg "list" = none
  dct : mg "dict" = none
  nL : PySem.W.kitOne K (.ref C) (.type "list") = some false
  nD : PySem.W.kitOne K (.ref C) (.type "dict") = some false
section
variable {P : Program} {w : World} {K : PySem.W.Frag} {mg : Str → Option Value} {base : Heap} {C CN : Addr}
abbrev sCe : Stmt := top 17
theorem scCe : FnScope ["_law_script", "_law_k"] ["_law_script", "_law_k"] (defScope sCe) := ⟨rfl, rfl, rfl, by decide +kernel, rfl, by decide +kernel, by decide +kernel⟩
theorem ok_cell {f : Addr} {fd : FuncData} (F : Fun K "_law_cell" "_law_cell" sCe f fd) (T : Txt K mg C) : FnOk P w K mg base CX0 1 f fd ["_law_script", "_law_k"] (spCell K) := by
  refine F.ok scCe (fun vs H Q E h => ?_) (fun cdv A outer s H vs Q E hr h => ?_)
  · obtain ⟨l, ns, j, rfl, _⟩ := h
    rfl
  · obtain ⟨l, ns, j, rfl, hS, h0, hl, k⟩ := h
    refine ⟨_, (pss_cons (ps_if (pt_cmpR op_lt (pv 1) (pe_callB call_len rfl T.len PySem.boot_len (pa_cons (pv 0) pa_nil)) (nomark _)) (pss_one (ps_ret (pe_ix ix_list (pv 0) (pv 1) (fun _ _ => rfl)))) pss_nil)
 (pss_one (ps_ret pe_int))), ?_⟩
    refine ⟨_, rfl, _, rfl, _, _, rfl, .inl ⟨_, hS, rfl⟩, _, _, rfl, rfl, _, rfl, ?_⟩
    refine ite2 (fun hc => ?_) (fun hc => k 0)
    have hj : j < (ns.length : Int) := by
      have := of_decide_eq_true hc
      rw [List.length_map] at this
      exact this
    obtain ⟨i, rfl⟩ : ∃ i : Nat, j = (i : Int) := ⟨j.toNat, by omega⟩
    have hi : i < ns.length := by omega
    refine ⟨_, rfl, _, rfl, l, _, _, .int ns[i], rfl, rfl, hS, atI_nat (by rw [List.getElem?_map, List.getElem?_eq_getElem hi]; rfl), k _⟩
abbrev sWh : Stmt := top 19
theorem scWh : FnScope ["_law_cell_here", "_law_most"] ["_law_cell_here", "_law_most"] (defScope sWh) := ⟨rfl, rfl, rfl, by decide +kernel, rfl, by decide +kernel, by decide +kernel⟩
theorem ok_whole {f : Addr} {fd : FuncData} (F : Fun K "_law_whole" "_law_whole" sWh f fd) (T : Txt K mg C) : FnOk P w K mg base CX0 1 f fd ["_law_cell_here", "_law_most"] spWhole := by
  refine F.ok scWh (fun vs H Q E h => ?_) (fun cdv A outer s H vs Q E hr h => ?_)
  · obtain ⟨c, m, rfl, _⟩ := h
    rfl
  · obtain ⟨c, m, rfl, hm, hs, k⟩ := h
    have k2 : Q (.int (c % (2 * m + 1) - m)) H := by
      have h1 := Int.emod_nonneg c (show 2 * m + 1 ≠ 0 by omega)
      have h2 := Int.emod_lt_of_pos c (show 0 < 2 * m + 1 by omega)
      exact k _ (by omega) (by omega)
    have hc2 : CMulW 2 m := Sm.cmul (k := 2) (j := 1000) (by show (2 : Int).natAbs < 2 ^ 2; decide) hs
    refine ⟨_, (pss_cons (ps_if (pt_chain op_le op_le (pe_un un_neg (pv 1)) (pv 0) (pv 1)) (pss_one (ps_ret (pv 0))) pss_nil)
 (pss_one (ps_ret (pe_op op_sub (pe_op op_mod (pe_callTy call_int1 rfl T.int PyProof.Rows.boot_int (pa_cons (pv 0) pa_nil)) (pe_op op_add (pe_op op_mulW pe_int (pv 1)) pe_int)) (pv 1))))), ?_⟩
    refine ⟨_, rfl, _, rfl, _, rfl, _, _, rfl, rfl, _, rfl, ?_⟩
    refine ite2 (fun e1 => ?_) (fun e1 => ⟨_, rfl, iteF ?_⟩)
    · refine ⟨_, rfl, _, _, rfl, rfl, _, rfl, ?_⟩
      refine ite2 (fun e2 => ⟨_, rfl, k c (of_decide_eq_true e1) (of_decide_eq_true e2)⟩) (fun e2 => ?_)
      exact ⟨_, rfl, .inl ⟨_, rfl, _, rfl, _, _, rfl, rfl, hc2, _, _, rfl, rfl, _, _, rfl, rfl, (by show 0 < 2 * m + 1; omega), _, rfl, _, _, rfl, rfl, k2⟩⟩
    · exact ⟨_, rfl, .inl ⟨_, rfl, _, rfl, _, _, rfl, rfl, hc2, _, _, rfl, rfl, _, _, rfl, rfl, (by show 0 < 2 * m + 1; omega), _, rfl, _, _, rfl, rfl, k2⟩⟩
abbrev sRa : Stmt := top 20
theorem scRa : FnScope ["_law_a", "_law_b", "_law_most", "_law_bottom"] ["_law_a", "_law_b", "_law_most"] (defScope sRa) := ⟨rfl, rfl, rfl, by decide +kernel, rfl, by decide +kernel, by decide +kernel⟩
theorem ok_ratio {f : Addr} {fd : FuncData} (F : Fun K "_law_ratio" "_law_ratio" sRa f fd) (T : Txt K mg C) (OW : Ok P w K mg base CX0 1 "_law_whole" ["_law_cell_here", "_law_most"] spWhole) : FnOk P w K mg base CX0 2 f fd ["_law_a", "_law_b", "_law_most"] spRatio := by
  obtain ⟨fWh, fdWh, GWh, mWh, kWh, bWh⟩ := OW
  refine F.ok scRa (fun vs H Q E h => ?_) (fun cdv A outer s H vs Q E hr h => ?_)
  · obtain ⟨a, b, m, rfl, _⟩ := h
    rfl
  · obtain ⟨a, b, m, rfl, hm, hs, k⟩ := h
    refine ⟨_, (pss_cons (ps_set (i := 3) scRa.nd rfl (Or.inl rfl) (pe_call GWh (hr.mono (by decide)) rfl mWh kWh bWh .nil pass0 (pa_cons (pv 1) (pa_cons (pv 2) pa_nil))))
 (pss_cons (ps_if (pt_cmpR op_eq (pv 3) pe_int (nomark _)) (pss_one (ps_set (i := 3) scRa.nd rfl (Or.inl rfl) pe_int)) pss_nil)
 (pss_one (ps_ret (pe_tup (pa_cons (pe_call GWh (hr.mono (by decide)) rfl mWh kWh bWh .nil pass0 (pa_cons (pv 0) (pa_cons (pv 2) pa_nil))) (pa_cons (pv 3) pa_nil))))))), ?_⟩
    refine ⟨_, rfl, _, rfl, b, m, rfl, hm, hs, fun d d1 d2 => ⟨_, rfl, rfl, _, rfl, ?_⟩⟩
    refine ite2 (fun e1 => ?_) (fun e1 => ?_)
    · exact ⟨_, rfl, _, rfl, a, m, rfl, hm, hs, fun t t1 t2 => ⟨_, rfl, (by show 2 ≤ sizeLine; decide), fun p hp => k t 1 p _ (Ex.new hp) upd_same t1 t2 (by omega) (by omega) (by decide)⟩⟩
    · have hd : d ≠ 0 := fun z => e1 (decide_eq_true (by rw [z]))
      exact ⟨_, rfl, _, rfl, a, m, rfl, hm, hs, fun t t1 t2 => ⟨_, rfl, (by show 2 ≤ sizeLine; decide), fun p hp => k t d p _ (Ex.new hp) upd_same t1 t2 d1 d2 hd⟩⟩
abbrev sGc : Stmt := top 21
theorem scGc : FnScope ["_law_a", "_law_b", "_law_rest"] ["_law_a", "_law_b"] (defScope sGc) := ⟨rfl, rfl, rfl, by decide +kernel, rfl, by decide +kernel, by decide +kernel⟩
theorem ok_gcd {f : Addr} {fd : FuncData} (F : Fun K "_law_gcd" "_law_gcd" sGc f fd) (T : Txt K mg C) : FnOk P w K mg base CX0 1 f fd ["_law_a", "_law_b"] spGcd := by
  refine F.ok scGc (fun vs H Q E h => ?_) (fun cdv A outer s H vs Q E hr h => ?_)
  · obtain ⟨a, b, rfl, _⟩ := h
    rfl
  · obtain ⟨a, b, rfl, ha, hb, k⟩ := h
    refine ⟨_, (pss_cons (ps_set (i := 0) scGc.nd rfl (Or.inl rfl) (pe_callB call_abs rfl T.abs PyProof.Rows.boot_abs (pa_cons (pv 0) pa_nil)))
 (pss_cons (ps_set (i := 1) scGc.nd rfl (Or.inl rfl) (pe_callB call_abs rfl T.abs PyProof.Rows.boot_abs (pa_cons (pv 1) pa_nil)))
 (pss_cons (ps_while PassesOwn.never (pt_cmpR op_gt (pv 1) pe_int (nomark _)) (pss_cons (ps_set (i := 2) scGc.nd rfl (Or.inl rfl) (pe_op op_sub (pv 0) (pe_op op_mulW (pe_op op_fdivNW (pv 0) (pv 1)) (pv 1))))
 (pss_cons (ps_set (i := 0) scGc.nd rfl (Or.inl rfl) (pv 1))
 (pss_one (ps_set (i := 1) scGc.nd rfl (Or.inl rfl) (pv 2))))))
 (pss_one (ps_ret (pv 0)))))), ?_⟩
    refine ⟨_, rfl, _, rfl, _, rfl, _, rfl, ?_⟩
    have ha' : Sm 8000 (if a < 0 then -a else a) := by split; exact ha.neg; exact ha
    have hb' : Sm 8000 (if b < 0 then -b else b) := by split; exact hb.neg; exact hb
    have h0 : 0 ≤ (if a < 0 then -a else a) ∧ 0 ≤ (if b < 0 then -b else b) := by constructor <;> (split <;> omega)
    have hg : Int.gcd (if a < 0 then -a else a) (if b < 0 then -b else b) = Int.gcd a b := by
      split <;> split <;> simp [Int.gcd_neg, Int.neg_gcd]
    generalize (if a < 0 then -a else a) = x at *
    generalize (if b < 0 then -b else b) = y at *
    refine ⟨fun m σ H' => ∃ (x y : Int) (r : Option V), σ = [some (.int x), some (.int y), r] ∧ H = H' ∧ 0 ≤ x ∧ 0 ≤ y ∧ Sm 8000 x ∧ Sm 8000 y ∧ Int.gcd x y = Int.gcd a b ∧ m = y.toNat, ⟨y.toNat, x, y, none, rfl, rfl, h0.1, h0.2, ha', hb', hg, rfl⟩, ?_⟩
    rintro m σ H' ⟨x, y, r, rfl, rfl, x0, y0, hx, hy, hg, rfl⟩
    refine ⟨_, rfl, _, _, rfl, rfl, _, rfl, ?_⟩
    refine ite2 (fun e1 => ?_) (fun e1 => ?_)
    · have hp : 0 < y := of_decide_eq_true e1
      have q1 : (x.fdiv y).natAbs ≤ x.natAbs := by
        rw [Int.fdiv_eq_ediv_of_nonneg x (by omega)]
        exact Int.natAbs_ediv_le_natAbs _ _
      have cm : CMulW (x.fdiv y) y := (hx.le q1).cmul hy
      have e2 : x - x.fdiv y * y = x % y := by
        rw [Int.fdiv_eq_ediv_of_nonneg x (by omega), Int.emod_def, Int.mul_comm]
      have l1 := Int.emod_nonneg x (show y ≠ 0 by omega)
      have l2 := Int.emod_lt_of_pos x hp
      refine ⟨fun σ' H' => ∃ m', m' < y.toNat ∧ ∃ (x y : Int) (r : Option V), σ' = [some (.int x), some (.int y), r] ∧ H = H' ∧ 0 ≤ x ∧ 0 ≤ y ∧ Sm 8000 x ∧ Sm 8000 y ∧ Int.gcd x y = Int.gcd a b ∧ m' = y.toNat, fun _ _ z => z, ?_⟩
      refine ⟨_, rfl, _, rfl, _, rfl, _, _, rfl, rfl, hy.cdiv (by omega), _, rfl, _, _, rfl, rfl, cm, _, _, rfl, rfl, _, rfl, _, rfl, ?_⟩
      refine ⟨(x % y).toNat, by omega, y, x % y, some (.int (x % y)), ?_, rfl, by omega, l1, hy, hy.le (by omega), ?_, rfl⟩
      · show [some (V.int y), some (V.int (x - x.fdiv y * y)), some (V.int (x - x.fdiv y * y))] = _
        rw [e2]
      · rw [← hg, Int.gcd_comm]
        show Nat.gcd (x % y).natAbs y.natAbs = Nat.gcd x.natAbs y.natAbs
        rw [Int.natAbs_emod_of_nonneg x0, ← Nat.gcd_rec, Nat.gcd_comm]
    · have hz : y = 0 := by
        have := of_decide_eq_false (Bool.eq_false_iff.mpr e1)
        omega
      subst hz
      refine ⟨_, rfl, ?_⟩
      have e3 : x = ((Int.gcd a b : Nat) : Int) := by
        rw [← hg]
        show x = ((Nat.gcd x.natAbs 0 : Nat) : Int)
        rw [Nat.gcd_zero_right]
        omega
      rw [e3]
      exact k
abbrev sIi : Stmt := top 22
theorem scIi : FnScope ["_law_actual"] ["_law_actual"] (defScope sIi) := ⟨rfl, rfl, rfl, by decide +kernel, rfl, by decide +kernel, by decide +kernel⟩
theorem ok_isint {f : Addr} {fd : FuncData} (F : Fun K "_law_is_int" "_law_is_int" sIi f fd) (T : Txt K mg C) : FnOk P w K mg base CX0 1 f fd ["_law_actual"] spIsInt := by
  refine F.ok scIi (fun vs H Q E h => ?_) (fun cdv A outer s H vs Q E hr h => ?_)
  · obtain ⟨a, rfl, _⟩ := h
    rfl
  · obtain ⟨a, rfl, k⟩ := h
    refine ⟨_, (pss_one (ps_ret (pe_and (pe_callB (r := rIsi K) call_isi rfl T.isi PyProof.Rows.boot_isinstance (pa_cons (pv 0) (pa_cons (pe_bltn (v := .ty "int") rfl T.int PyProof.Rows.boot_int rfl) pa_nil))) (pe_one (pe_not (pe_callB (r := rIsi K) call_isi rfl T.isi PyProof.Rows.boot_isinstance (pa_cons (pv 0) (pa_cons (pe_bltn (v := .ty "bool") rfl T.bool PyProof.Rows.boot_bool rfl) pa_nil)))))))), ?_⟩
    refine ⟨_, rfl, _, _, _, _, true, rfl, .ty "int", .base (.int a), kit_ty (by decide +kernel), true, rfl, iteT ?_⟩
    exact ⟨_, rfl, _, _, _, _, false, rfl, .ty "bool", .base (.int a), kit_ty (by decide +kernel), false, rfl, k _ (Ex.refl _)⟩
abbrev sHo : Stmt := top 23
theorem scHo : FnScope ["_law_actual", "_law_top", "_law_bottom"] ["_law_actual", "_law_top", "_law_bottom"] (defScope sHo) := ⟨rfl, rfl, rfl, by decide +kernel, rfl, by decide +kernel, by decide +kernel⟩
theorem tyM {t b : Int} {v : V} {H : Hp} (T : Txt K mg C) (h : Mo C t b v H) : TyX K H v (.ref C) := by
  obtain ⟨a, dx, rfl, e⟩ := h
  exact .base (.ins e T.cl T.cls T.clg T.clt T.obj)
theorem ok_holds {f : Addr} {fd : FuncData} (F : Fun K "_law_holds" "_law_holds" sHo f fd) (T : Txt K mg C) (OI : Ok P w K mg base CX0 1 "_law_is_int" ["_law_actual"] spIsInt) (OG : Ok P w K mg base CX0 1 "_law_gcd" ["_law_a", "_law_b"] spGcd) :
    FnOk P w K mg base CX0 2 f fd ["_law_actual", "_law_top", "_law_bottom"] (spHolds C) := by
  obtain ⟨fIi, fdIi, GIi, mIi, kIi, bIi⟩ := OI
  obtain ⟨fGc, fdGc, GGc, mGc, kGc, bGc⟩ := OG
  refine F.ok scHo (fun vs H Q E h => ?_) (fun cdv A outer s H vs Q E hr h => ?_)
  · obtain ⟨x, t, b, n, d, rfl, _⟩ := h
    rfl
  · obtain ⟨x, t, b, n, d, rfl, hM, hR, he, st, sb, sn, sd, k⟩ := h
    have ty := tyM T hM
    obtain ⟨a, dx, rfl, hM⟩ := hM
    refine ⟨_, (pss_cons (ps_if (PW.pt (pw_or (pt_not (pt_val (pe_callB (r := rIsi K) call_isi rfl T.isi PyProof.Rows.boot_isinstance (pa_cons (pv 0) (pa_cons (pe_glob (v := .ref C) rfl T.mgC rfl) pa_nil))))) (pw_or (pt_not (pt_val (pe_call GIi (hr.mono (by decide)) rfl mIi kIi bIi .nil pass0 (pa_cons (pe_fld (pv 0) rfl) pa_nil)))) (pw_or1 (pt_not (pt_val (pe_call GIi (hr.mono (by decide)) rfl mIi kIi bIi .nil pass0 (pa_cons (pe_fld (pv 0) rfl) pa_nil)))))))) (pss_one (ps_ret pe_bl)) pss_nil)
 (pss_cons (ps_if (PW.pt (pw_or (pt_cmpR op_lt (pe_fld (pv 0) rfl) pe_int (nomark _)) (pw_or1 (pt_cmpR op_ne (pe_call GGc (hr.mono (by decide)) rfl mGc kGc bGc .nil pass0 (pa_cons (pe_fld (pv 0) rfl) (pa_cons (pe_fld (pv 0) rfl) pa_nil))) pe_int (nomark _))))) (pss_one (ps_ret pe_bl)) pss_nil)
 (pss_one (ps_ret (pe_cmpR op_eq (pe_op op_mulW (pe_fld (pv 0) rfl) (pv 2)) (pe_op op_mulW (pv 1) (pe_fld (pv 0) rfl)) (nomark _)))))), ?_⟩
    refine ⟨_, rfl, _, _, _, _, true, rfl, .own C, ty, T.isC, true, rfl, iteF ?_⟩
    refine ⟨_, rfl, a, C, dx, _, _, rfl, hM, T.cl, T.nT, mf_top _ _, t, rfl, fun H1 e1 => ⟨true, rfl, iteF ?_⟩⟩
    refine ⟨_, rfl, a, C, dx, _, _, rfl, e1 _ _ hM, T.cl, T.nB, mf_bottom _ _, b, rfl, fun H2 e2 => ⟨true, rfl, iteF ?_⟩⟩
    have hM2 := e2 _ _ (e1 _ _ hM)
    refine ⟨_, rfl, a, C, dx, _, _, rfl, hM2, T.cl, T.nB, mf_bottom _ _, _, _, rfl, rfl, _, rfl, ?_⟩
    rw [decide_eq_false (show ¬ b < 1 by have := hR.1; omega)]
    refine iteF ?_
    refine ⟨_, rfl, a, C, dx, _, _, rfl, hM2, T.cl, T.nT, mf_top _ _, _, rfl, a, C, dx, _, _, rfl, hM2, T.cl, T.nB, mf_bottom _ _, t, b, rfl, st.mono (by decide), sb.mono (by decide), rfl, _, rfl, ?_⟩
    rw [hR.2]
    refine iteF ?_
    refine ⟨_, rfl, a, C, dx, _, _, rfl, hM2, T.cl, T.nT, mf_top _ _, _, rfl, _, _, rfl, rfl, st.cmul sd, _, rfl, _, rfl, a, C, dx, _, _, rfl, hM2, T.cl, T.nB, mf_bottom _ _, _, _, rfl, rfl, sn.cmul sb, rfl, ?_⟩
    show Q (V.bl (decide (V.int (t * d) = V.int (n * b)))) H2
    rw [he, decide_eq_true rfl]
    exact k _ (e1.trans e2)
abbrev sKp : Stmt := top 3
theorem scKp : FnScope ["value", "part", "key"] ["value"] (defScope sKp) := ⟨rfl, rfl, rfl, by decide +kernel, rfl, by decide +kernel, by decide +kernel⟩
theorem ok_kept {f : Addr} {fd : FuncData} (F : Fun K "_kept" "_kept" sKp f fd) (T : Txt K mg C) : FnOk P w K mg base CX0 1 f fd ["value"] (spKept K) := by
  refine F.ok scKp (fun vs H Q E h => ?_) (fun cdv A outer s H vs Q E hr h => ?_)
  · obtain ⟨x, rfl, _⟩ := h
    rfl
  · obtain ⟨x, rfl, px, k⟩ := h
    obtain ⟨t, ty, l, d⟩ := px.ty
    refine ⟨_, (pss_cons (ps_if (pt_val (pe_callB (r := rIsi K) call_isi rfl T.isi PyProof.Rows.boot_isinstance (pa_cons (pv 0) (pa_cons (pe_bltn (v := .ty "list") rfl T.lst PyProof.Rows.boot_list rfl) pa_nil)))) (pss_one ps_never) pss_nil)
 (pss_cons (ps_if (pt_val (pe_callB (r := rIsi K) call_isi rfl T.isi PyProof.Rows.boot_isinstance (pa_cons (pv 0) (pa_cons (pe_bltn (v := .ty "dict") rfl T.dct PyProof.Rows.boot_dict rfl) pa_nil)))) (pss_one ps_never) pss_nil)
 (pss_one (ps_ret (pv 0))))), ?_⟩
    exact ⟨_, rfl, _, _, _, _, false, rfl, .ty "list", ty, l, false, rfl, iteF ⟨_, rfl, _, _, _, _, false, rfl, .ty "dict", ty, d, false, rfl, iteF ⟨_, rfl, k⟩⟩⟩
/-! ### NoMoment's and Moment's __init__ -/
structure TxtN (K : PySem.W.Frag) (mg : Str → Option Value) (CN fN : Addr) : Prop where
  ox : OexC K CN
  nT : PySem.W.findIn K (.ref CN) "top" = some none
  nB : PySem.W.findIn K (.ref CN) "bottom" = some none
  iC : PySem.W.findIn K (.ref CN) "__init__" = some (some (.ref fN))
  tI : PySem.W.typeIn K (.ref fN) = some (.type "function")
  mg : mg "NoMoment" = some (.ref CN)
def spNoM (K : PySem.W.Frag) (C : Addr) : Sp := fun vs H Q _ => ∃ (a : Addr) (x y : V), vs = [.ref a, x, y] ∧ H a = some (exo a C none) ∧ Plain K H x ∧ Plain K H y ∧
  ∀ dx, H dx = none → dx ≠ a → Q .non (upd (upd (upd H dx (exd dx [(("top" : Str), x)])) a (exo a C (some dx))) dx (exd dx [(("bottom" : Str), y), (("top" : Str), x)]))
abbrev sNM : Stmt := inClass (top 5) 0
theorem scNM : FnScope ["self", "top", "bottom"] ["self", "top", "bottom"] (defScope sNM) := ⟨rfl, rfl, rfl, by decide +kernel, rfl, by decide +kernel, by decide +kernel⟩
theorem ok_nomom {f fN : Addr} {fd : FuncData} (F : Fun K "__init__" "NoMoment.__init__" sNM f fd) (T : TxtN K mg CN fN) (OK : Ok P w K mg base CX0 1 "_kept" ["value"] (spKept K)) : FnOk P w K mg base CX0 2 f fd ["self", "top", "bottom"] (spNoM K CN) := by
  obtain ⟨fKp, fdKp, GKp, mKp, kKp, bKp⟩ := OK
  refine F.ok scNM (fun vs H Q E h => ?_) (fun cdv A outer s H vs Q E hr h => ?_)
  · obtain ⟨a, x, y, rfl, _⟩ := h
    rfl
  · obtain ⟨a, x, y, rfl, ha, px, py, k⟩ := h
    refine ⟨_, (pss_cons (ps_ost (pv 0) (pe_call GKp (hr.mono (by decide)) rfl mKp kKp bKp .nil pass0 (pa_cons (pv 1) pa_nil)))
 (pss_one (ps_ost (pv 0) (pe_call GKp (hr.mono (by decide)) rfl mKp kKp bKp .nil pass0 (pa_cons (pv 2) pa_nil))))), ?_⟩
    refine ⟨_, rfl, x, rfl, px, _, rfl, a, CN, rfl, T.ox, T.nT, .inl ⟨ha, fun dx n1 n2 => ?_⟩⟩
    exact ⟨_, rfl, y, rfl, py.keep (ins_st ha n1), _, rfl, a, CN, rfl, T.ox, T.nB, .inr ⟨dx, _, upd_same, (by rw [upd_ne n2, upd_same]), (by show 1 ≤ 900; decide), k dx n1 n2⟩⟩
abbrev sIn : Stmt := inClass (top 11) 0
theorem scIn : FnScope ["self", "top", "bottom", "shared"] ["self", "top", "bottom"] (defScope sIn) := ⟨rfl, rfl, rfl, by decide +kernel, rfl, by decide +kernel, by decide +kernel⟩
theorem ok_init {f fN : Addr} {fd fdN : FuncData} {ds : List V} (F : FunD K "__init__" "Moment.__init__" (defArgs sIn) (defBody sIn) (defScope sIn) ds [] f fd) (T : Txt K mg C) (TN : TxtN K mg CN fN) (FNM : Fun K "__init__" "NoMoment.__init__" sNM fN fdN) (bNM : Binds K fdN ["self", "top", "bottom"] []) (OK : Ok P w K mg base CX0 1 "_kept" ["value"] (spKept K)) :
    FnOk P w K mg base (L2.CX P w) 4 f fd ["self", "top", "bottom"] (spInit C CN) := by
  have GNM : FnOk P w K mg base CX0 2 fN fdN ["self", "top", "bottom"] (spNoM K CN) := ok_nomom FNM TN OK
  refine F.ok (CX := L2.CX P w) scIn (fun vs H Q E h => ?_) (fun cdv A outer s H vs Q E hr h => ?_)
  · obtain ⟨p, dx, n, d, rfl, _⟩ := h
    rfl
  · obtain ⟨p, dx, n, d, rfl, hp, sn, sd, kE, kQ⟩ := h
    refine ⟨_, (pss_cons (ps_if (pt_cmpR op_eq (pv 2) pe_int (nomark _)) (pss_one (ps_raise rfl (takes_of rfl rfl rfl rfl) (pmk_oex TN.ox TN.iC TN.tI GNM (hr.mono (by decide)) bNM .nil pass0 rfl TN.mg (pa_cons (pv 1) (pa_cons (pv 2) pa_nil))))) pss_nil)
 (pss_cons (ps_set (i := 3) scIn.nd rfl (Or.inl rfl) (pe_ifExp (pt_cmpR op_gt (pv 2) pe_int (nomark _)) (pe_callBfun cr_gcd rfl T.gcd (pa_cons (pv 1) (pa_cons (pv 2) pa_nil))) (pe_un un_neg (pe_callBfun cr_gcd rfl T.gcd (pa_cons (pv 1) (pa_cons (pv 2) pa_nil))))))
 (pss_cons (ps_fld (pv 0) (pe_op op_fdivNW (pv 1) (pv 3)) rfl)
 (pss_one (ps_fld (pv 0) (pe_op op_fdivNW (pv 2) (pv 3)) rfl))))), ?_⟩
    refine ⟨_, rfl, rfl, _, rfl, ?_⟩
    refine ite2 (fun e1 => ?_) (fun e1 => ?_)
    · have hd : d = 0 := by
        have := of_decide_eq_true e1
        injection this
      subst hd
      refine ⟨_, rfl, _, rfl, (by show 2 ≤ 1000; decide), fun a ha => ⟨a, _, _, rfl, upd_same, .int _, .int _, fun d1 n1 n2 => ⟨rfl, d1, _, ?_, upd_same, ?_, ?_⟩⟩⟩
      · rw [upd_ne n2.symm, upd_same]
      · rw [upd_ne n2] at n1
        exact n1
      · rw [upd_ne n2] at n1
        refine kE rfl d1 _ _ n1 ?_ ?_ upd_same fun q o hq => ?_
        · rw [lookup_put, if_neg ntb, lookup_put, if_pos rfl]
        · rw [lookup_put, if_pos rfl]
        · have q1 : q ≠ d1 := ne_of_none hq n1
          have q2 : q ≠ a := ne_of_none hq ha
          rw [upd_ne q1, del_ne q2, upd_ne q1, upd_ne q2, upd_ne q1, upd_ne q2]
          exact hq
    · have hd : d ≠ 0 := fun z => e1 (decide_eq_true (by rw [z]))
      have N := norm_mk (n := n) hd
      have sN := sg_ne (n := n) hd
      have ss : Sm 8000 (sg n d) := sd.le (sg_le hd)
      have fin : ∀ D : Ends, (D.nx = fun _ H' => Q .non H') → tSeq (sFld K (tVar 0) (tOp (rI CDivNW fun i j => .int (i.fdiv j)) (tVar 1) (tVar 3)) "top") (sFld K (tVar 0) (tOp (rI CDivNW fun i j => .int (i.fdiv j)) (tVar 2) (tVar 3)) "bottom") D
          [some (.ref p), some (.int n), some (.int d), some (.int (sg n d))] H := by
        intro D hD
        refine ⟨_, rfl, _, rfl, _, _, rfl, rfl, ss.cdiv sN, _, rfl, p, C, dx, [], rfl, hp, T.cl, T.nT, (by show 0 < 1000; decide), ?_⟩
        refine ⟨_, rfl, _, rfl, _, _, rfl, rfl, ss.cdiv sN, _, rfl, p, C, dx, _, rfl, upd_same, T.cl, T.nB, (by show 1 < 1000; decide), ?_⟩
        rw [hD]
        have z := kQ hd _ _ N
        have e : upd (upd H p (.ins C dx (putF "top" (.int (n.fdiv (sg n d))) []))) p (.ins C dx (putF "bottom" (.int (d.fdiv (sg n d))) (putF "top" (.int (n.fdiv (sg n d))) []))) = upd H p (.ins C dx (mf (n.fdiv (sg n d)) (d.fdiv (sg n d)))) := by
          funext q
          by_cases hq : q = p
          · subst hq
            rw [upd_same, upd_same]
            rfl
          · rw [upd_ne hq, upd_ne hq, upd_ne hq]
        show Q .non (upd (upd H p _) p _)
        exact e ▸ z
      refine ⟨_, rfl, _, _, rfl, rfl, _, rfl, ?_⟩
      refine ite2 (fun e2 => ?_) (fun e2 => ?_)
      · have h0 := of_decide_eq_true e2
        refine ⟨_, rfl, _, rfl, n, d, rfl, ?_⟩
        have e3 : sg n d = ((Nat.gcd n.natAbs d.natAbs : Nat) : Int) := if_pos h0
        have z := fin { nx := fun _ H' => Q .non H', rt := Q } rfl
        rw [e3] at z
        exact z
      · have h0 := of_decide_eq_false (Bool.eq_false_iff.mpr e2)
        refine ⟨_, rfl, _, rfl, n, d, rfl, _, rfl, ?_⟩
        have e3 : sg n d = -((Nat.gcd n.natAbs d.natAbs : Nat) : Int) := if_neg h0
        have z := fin { nx := fun _ H' => Q .non H', rt := Q } rfl
        rw [e3] at z
        exact z
abbrev sRo : Stmt := top 18
theorem scRo : FnScope ["_law_cell_here", "_law_sizes", "_law_out", "_law_size", "_law_seed", "_law_k", "_law_mixed"] ["_law_cell_here", "_law_sizes"] (defScope sRo) := ⟨rfl, rfl, rfl, by decide +kernel, rfl, by decide +kernel, by decide +kernel⟩
theorem getEl {ys zs : List Int} (hl : ys.length = zs.length) : True := trivial
theorem row_more {ys zs : List Int} {y z : Int} {i : Nat} (hy : ys.length = i) (hz : zs[i]? = some z) (h0 : 0 ≤ y) (h1 : y < z) (hb : ∀ (j : Nat) (a b : Int), ys[j]? = some a → zs[j]? = some b → 0 ≤ a ∧ a < b) :
    ∀ (j : Nat) (a b : Int), (ys ++ [y])[j]? = some a → zs[j]? = some b → 0 ≤ a ∧ a < b := by
  intro j a b e1 e2
  by_cases hj : j < i
  · rw [List.getElem?_append_left (by omega)] at e1
    exact hb j a b e1 e2
  · have : j = i := by
      have := (List.getElem?_eq_some_iff.mp e1).1
      simp at this
      omega
    subst this
    rw [List.getElem?_append_right (by omega), hy] at e1
    simp at e1
    subst e1
    rw [hz] at e2
    cases e2
    exact ⟨h0, h1⟩
theorem sm31 {z : Int} (h : 0 ≤ z ∧ z < 2147483648) : Sm 31 z := by
  unfold Sm
  omega
theorem ok_row {f : Addr} {fd : FuncData} (F : Fun K "_law_row" "_law_row" sRo f fd) (T : Txt K mg C) : FnOk P w K mg base CX0 1 f fd ["_law_cell_here", "_law_sizes"] (spRow K) := by
  refine F.ok scRo (fun vs H Q E h => ?_) (fun cdv A outer s H vs Q E hr h => ?_)
  · obtain ⟨c, l, zs, rfl, _⟩ := h
    rfl
  · obtain ⟨c, l, zs, rfl, hS, hl, hb, k⟩ := h
    refine ⟨_, (pss_cons (ps_set (i := 2) scRo.nd rfl (Or.inl rfl) (pe_lst pa_nil))
 (pss_cons (ps_if (pt_cmpR op_ge (pv 0) (pe_op op_pow pe_int pe_int) (nomark _)) (pss_cons (ps_for PassesOwn.never rfl (pi_list (pv 1)) (pg_name (i := 3) scRo.nd rfl (Or.inl rfl)) (pss_cons (ps_expr (pe_bm PySem.F.plainAttrs_list PySem.F.slot_list_append PySem.F.type_list_append mt_append (pv 2) (pa_cons (pe_op op_mod (pe_callTy call_int1 rfl T.int PyProof.Rows.boot_int (pa_cons (pv 0) pa_nil)) (pv 3)) pa_nil)))
 (pss_one (ps_set (i := 0) scRo.nd rfl (Or.inl rfl) (pe_op op_fdivNW (pv 0) (pv 3))))))
 (pss_one (ps_ret (pv 2)))) pss_nil)
 (pss_cons (ps_set (i := 4) scRo.nd rfl (Or.inl rfl) (pe_op op_mod (pe_callTy call_int1 rfl T.int PyProof.Rows.boot_int (pa_cons (pv 0) pa_nil)) pe_int))
 (pss_cons (ps_for PassesOwn.never rfl (pi_range1 rfl T.range (pa_cons (pe_callB call_len rfl T.len PySem.boot_len (pa_cons (pv 1) pa_nil)) pa_nil)) (pg_name (i := 5) scRo.nd rfl (Or.inl rfl)) (pss_cons (ps_set (i := 6) scRo.nd rfl (Or.inl rfl) (pe_op op_add (pe_op op_mod (pe_callTy call_int1 rfl T.int PyProof.Rows.boot_int (pa_cons (pe_op op_pow (pe_op op_add (pe_op op_add (pv 4) (pe_op op_mulW pe_int (pv 5))) pe_int) pe_int) pa_nil)) pe_int) (pv 5)))
 (pss_one (ps_expr (pe_bm PySem.F.plainAttrs_list PySem.F.slot_list_append PySem.F.type_list_append mt_append (pv 2) (pa_cons (pe_op op_mod (pe_callTy call_int1 rfl T.int PyProof.Rows.boot_int (pa_cons (pe_op op_mod (pe_callTy call_int1 rfl T.int PyProof.Rows.boot_int (pa_cons (pe_op op_mulW (pv 6) pe_int) pa_nil)) pe_int) pa_nil)) (pe_ix ix_list (pv 1) (pv 5) (fun _ _ => rfl))) pa_nil))))))
 (pss_one (ps_ret (pv 2))))))), ?_⟩
    refine ⟨by show 0 ≤ sizeLine; decide, fun o ho => ?_⟩
    have x0 : Ex H (upd H o (.lst [])) := Ex.new ho
    have hS' : ∀ {H' : Hp}, Ex H H' → SqL K H' l (zs.map V.int) := fun e => Evl.ex_l e hS
    refine ⟨_, rfl, _, _, rfl, rfl, ⟨by decide, by decide, by decide⟩, _, _, rfl, rfl, _, rfl, ?_⟩
    refine ite2 (fun e1 => ?_) (fun e1 => ?_)
    · refine ⟨_, rfl, l, rfl, ⟨_, hS' x0⟩, for_list (K := K) (a := l) (xs := zs.map V.int) (fun i σ H' => ∃ (c : Int) (ys : List Int) (v : Option V), σ = [some (.int c), some (.ref l), some (.ref o), v, none, none, none] ∧ Ex H H' ∧ H' o = some (.lst (ys.map V.int)) ∧ ys.length = i ∧
          ∀ (j : Nat) (a b : Int), ys[j]? = some a → zs[j]? = some b → 0 ≤ a ∧ a < b) ⟨c, [], none, rfl, x0, upd_same, rfl, fun j a b e => by simp at e⟩ (fun i σ H' _ ⟨_, _, _, _, e, _⟩ => hS' e) ?_ ?_⟩
      · rintro i y σ H' hi ⟨c, ys, v, rfl, e, hO, hy, hB⟩
        obtain ⟨z, hz, rfl⟩ : ∃ z, zs[i]? = some z ∧ y = V.int z := by
          rw [List.getElem?_map] at hi
          cases e : zs[i]? with
          | none =>
            rw [e] at hi
            cases hi
          | some z =>
            rw [e] at hi
            exact ⟨z, rfl, (Option.some.inj hi).symm⟩
        obtain ⟨z0, z1⟩ := hb z (List.mem_of_getElem? hz)
        refine ⟨_, rfl, .inl ⟨rfl, _, SqL.of hO⟩, _, rfl, .inl ⟨_, rfl, _, rfl, _, _, rfl, rfl, z0, o, _, _, rfl, rfl, hO, ?_, ?_⟩⟩
        · rw [List.length_map]
          exact small1000 (by have := (List.getElem?_eq_some_iff.mp hz).1; omega)
        · refine ⟨_, rfl, _, rfl, _, _, rfl, rfl, (sm31 (z := z) ⟨by omega, by omega⟩).cdiv (by omega), ?_⟩
          refine ⟨_, ys ++ [c % z], _, rfl, Evl.Ex.mut e ho, ?_, by simp [hy], row_more hy hz (Int.emod_nonneg c (by omega)) (Int.emod_lt_of_pos c z0) hB⟩
          rw [upd_same, List.map_append]
          rfl
      · rintro σ H' ⟨c, ys, v, rfl, e, hO, hy, hB⟩
        rw [List.length_map] at hy
        exact ⟨_, rfl, k o ys H' e hO hy hB⟩
    · refine ⟨_, rfl, .inl ⟨_, rfl, _, _, rfl, rfl, (by show (0 : Int) < 2147483647; decide), ?_⟩⟩
      have s0 := Int.emod_nonneg c (show (2147483647 : Int) ≠ 0 by decide)
      have s1 := Int.emod_lt_of_pos c (show (0 : Int) < 2147483647 by decide)
      refine ⟨_, rfl, _, _, rfl, .inl ⟨_, hS' x0, rfl⟩, ?_⟩
      rw [List.length_map]
      refine ⟨(zs.length : Int), rfl, by omega, by omega, for_range (lo := 0) (n := ((zs.length : Int)).toNat) (fun i σ H' => ∃ (ys : List Int) (v4 v5 : Option V), σ = [some (.int c), some (.ref l), some (.ref o), none, some (.int (c % 2147483647)), v4, v5] ∧ Ex H H' ∧ H' o = some (.lst (ys.map V.int)) ∧ ys.length = i ∧
          ∀ (j : Nat) (a b : Int), ys[j]? = some a → zs[j]? = some b → 0 ≤ a ∧ a < b) ⟨[], none, none, rfl, x0, upd_same, rfl, fun j a b e => by simp at e⟩ ?_ ?_⟩
      · rintro i σ H' hi ⟨ys, v4, v5, rfl, e, hO, hy, hB⟩
        have hi' : i < zs.length := by omega
        have hz : zs[i]? = some zs[i] := List.getElem?_eq_getElem hi'
        obtain ⟨z0, z1⟩ := hb _ (List.mem_of_getElem? hz)
        generalize zs[i] = z at *
        have e0 : (0 : Int) + (i : Int) = (i : Int) := Int.zero_add _
        rw [e0]
        have m1 : CMulW 7919 (i : Int) := Sm.cmul (k := 31) (j := 31) (sm31 ⟨by decide, by decide⟩) (sm31 ⟨by omega, by omega⟩)
        have b1 : (c % 2147483647 + 7919 * (i : Int) + 104729).natAbs < 2 ^ 64 := by omega
        refine ⟨_, rfl, _, rfl, _, _, rfl, rfl, m1, _, _, rfl, rfl, _, _, rfl, rfl, _, _, rfl, rfl, ⟨by decide, by decide, b1⟩, .inl ⟨_, rfl, _, _, rfl, rfl, (by show (0 : Int) < 2147483647; decide), _, rfl, _, _, rfl, rfl, ?_⟩⟩
        have p0 := Int.emod_nonneg ((c % 2147483647 + 7919 * (i : Int) + 104729) ^ (5 : Int).toNat) (show (2147483647 : Int) ≠ 0 by decide)
        have p1 := Int.emod_lt_of_pos ((c % 2147483647 + 7919 * (i : Int) + 104729) ^ (5 : Int).toNat) (show (0 : Int) < 2147483647 by decide)
        have m2 : CMulW ((c % 2147483647 + 7919 * (i : Int) + 104729) ^ (5 : Int).toNat % 2147483647 + (i : Int)) 40692 := Sm.cmul (k := 32) (j := 31) (by unfold Sm; omega) (sm31 ⟨by decide, by decide⟩)
        refine ⟨_, rfl, .inl ⟨rfl, _, SqL.of hO⟩, _, rfl, _, _, rfl, rfl, m2, .inl ⟨_, rfl, _, _, rfl, rfl, (by show (0 : Int) < 2147483629; decide), .inl ⟨_, rfl, _, rfl, _, rfl, l, _, _, .int z, rfl, rfl, hS' e, atI_nat (by rw [List.getElem?_map, hz]; rfl), _, _, rfl, rfl, z0, o, _, _, rfl, rfl, hO, ?_, ?_⟩⟩⟩
        · rw [List.length_map]
          exact small1000 (by omega)
        · refine ⟨ys ++ [((c % 2147483647 + 7919 * (i : Int) + 104729) ^ (5 : Int).toNat % 2147483647 + (i : Int)) * 40692 % 2147483629 % z], _, _, rfl, Evl.Ex.mut e ho, ?_, by simp [hy], row_more hy hz (Int.emod_nonneg _ (by omega)) (Int.emod_lt_of_pos _ z0) hB⟩
          rw [upd_same, List.map_append]
          rfl
      · rintro σ H' ⟨ys, v4, v5, rfl, e, hO, hy, hB⟩
        exact ⟨_, rfl, k o ys H' e hO (by omega) hB⟩
open TL
/-! ### texts -/
structure TxtT (K : PySem.W.Frag) (mg : Str → Option Value) (CT fT : Addr) (t1 t2 t3 : Tok) : Prop where
  str : mg "str" = none
  most : mg "MOST_DIGITS" = some (.int 60 t1)
  bd : mg "BLOCK_DIGITS" = some (.int 60 t2)
  blk : mg "BLOCK" = some (.int (10 ^ 60) t3)
  ox : OexC K CT
  nX : PySem.W.findIn K (.ref CT) "text" = some none
  iC : PySem.W.findIn K (.ref CT) "__init__" = some (some (.ref fT))
  tI : PySem.W.typeIn K (.ref fT) = some (.type "function")
  mgT : mg "NoText" = some (.ref CT)
def TOk (z : Str) : Prop := z.length ≤ 400 ∧ ∀ c ∈ tl z, c < 0x110000
theorem TOk.line {z : Str} (h : TOk z) : z.length ≤ sizeLine := Nat.le_trans h.1 (by rw [sizeLine_eq]; decide)
def spNoT (K : PySem.W.Frag) (C : Addr) : Sp := fun vs H Q _ => ∃ (a : Addr) (x : V), vs = [.ref a, x] ∧ H a = some (exo a C none) ∧ Plain K H x ∧
  ∀ dx, H dx = none → dx ≠ a → Q .non (upd (upd H dx (exd dx [(("text" : Str), x)])) a (exo a C (some dx)))
def spIsNum : Sp := fun vs H Q _ => ∃ z : Str, vs = [.str z] ∧ TOk z ∧ ∀ k : Bool, (k = true ↔ Nm (tl z)) → Q (.bl k) H
def spDec : Sp := fun vs H Q _ => ∃ n : Int, vs = [.int n] ∧ n.natAbs < 10 ^ 120 ∧ ∀ (z : Str) (H' : Hp), Ex H H' → tl z = numT n → Q (.str z) H'
def spStr (C : Addr) : Sp := fun vs H Q _ => ∃ (x : V) (t b : Int), vs = [x] ∧ Mo C t b x H ∧ t.natAbs < 10 ^ 120 ∧ b.natAbs < 10 ^ 120 ∧ ∀ (z : Str) (H' : Hp), Ex H H' → tl z = strM t b → Q (.str z) H'
def spRead (C CT : Addr) : Sp := fun vs H Q E => ∃ z : Str, vs = [.str z] ∧ TOk z ∧
  (Written (tl z) → ∀ (t b n d : Int) (v : V) (H' : Hp), Ex H H' → Mo C t b v H' → Red t b → Frac (tl z) n d → t * d = n * b → Sm 200 t → Sm 200 b → Q v H') ∧
  (¬ Written (tl z) → ∀ (dd : Addr) (fs : List (Str × V)) (H' : Hp), fs.lookup ("text" : Str) = some (.str z) → H' dd = some (.xd fs) → Ex H H' → E (.ref CT) (some dd) H')
abbrev sNT : Stmt := inClass (top 6) 0
theorem scNT : FnScope ["self", "text"] ["self", "text"] (defScope sNT) := ⟨rfl, rfl, rfl, by decide +kernel, rfl, by decide +kernel, by decide +kernel⟩
theorem ok_notext {CT f fT : Addr} {fd : FuncData} {t1 t2 t3 : Tok} (F : Fun K "__init__" "NoText.__init__" sNT f fd) (T : TxtT K mg CT fT t1 t2 t3) (OK : Ok P w K mg base CX0 1 "_kept" ["value"] (spKept K)) : FnOk P w K mg base CX0 2 f fd ["self", "text"] (spNoT K CT) := by
  obtain ⟨fKp, fdKp, GKp, mKp, kKp, bKp⟩ := OK
  refine F.ok scNT (fun vs H Q E h => ?_) (fun cdv A outer s H vs Q E hr h => ?_)
  · obtain ⟨a, x, rfl, _⟩ := h
    rfl
  · obtain ⟨a, x, rfl, ha, px, k⟩ := h
    refine ⟨_, (pss_one (ps_ost (pv 0) (pe_call GKp (hr.mono (by decide)) rfl mKp kKp bKp .nil pass0 (pa_cons (pv 1) pa_nil)))), ?_⟩
    exact ⟨_, rfl, x, rfl, px, _, rfl, a, CT, rfl, T.ox, T.nX, .inl ⟨ha, fun dx n1 n2 => k dx n1 n2⟩⟩
theorem all_nat {z : Str} {f : Nat → Bool} : z.cps.all f = true ↔ ∀ c ∈ tl z, f c = true := by
  rw [← Array.all_toList, List.all_eq_true]
theorem digit_ascii {c : Nat} (h : c < 128) : Unicode.isDigit c = true ↔ 48 ≤ c ∧ c ≤ 57 := by
  have k : ∀ n : _root_.Fin 128, Unicode.isDigit n.val = true ↔ 48 ≤ n.val ∧ n.val ≤ 57 := by decide +kernel
  exact k ⟨c, h⟩
theorem num_iff {z : Str} (h1 : z.length ≤ 60) (h2 : Txt.isascii z = true) : Txt.isdigit z = true ↔ Nm (tl z) := by
  have ha : ∀ c ∈ tl z, c < 128 := fun c hc => of_decide_eq_true (all_nat.mp h2 c hc)
  have hl := len_tl z
  unfold Txt.isdigit
  rw [Bool.and_eq_true, decide_eq_true_eq]
  constructor
  · rintro ⟨h3, h4⟩
    refine ⟨by omega, fun e => ?_, fun c hc => (digit_ascii (ha c hc)).mp (all_nat.mp h4 c hc)⟩
    rw [e] at hl
    simp at hl
    omega
  · rintro ⟨h3, h4, h5⟩
    refine ⟨?_, all_nat.mpr fun c hc => (digit_ascii (ha c hc)).mpr (h5 c hc)⟩
    have := List.length_pos_iff.mpr h4
    omega
theorem num_ascii {z : Str} (h : Nm (tl z)) : Txt.isascii z = true := all_nat.mpr fun c hc => decide_eq_true (by have := h.2.2 c hc; omega)
abbrev sIn2 : Stmt := top 14
theorem scIn2 : FnScope ["text"] ["text"] (defScope sIn2) := ⟨rfl, rfl, rfl, by decide +kernel, rfl, by decide +kernel, by decide +kernel⟩
theorem ok_isnum {CT f fT : Addr} {fd : FuncData} {t1 t2 t3 : Tok} (F : Fun K "_is_number" "_is_number" sIn2 f fd) (T : Txt K mg C) (TT : TxtT K mg CT fT t1 t2 t3) : FnOk P w K mg base CX0 1 f fd ["text"] spIsNum := by
  refine F.ok scIn2 (fun vs H Q E h => ?_) (fun cdv A outer s H vs Q E hr h => ?_)
  · obtain ⟨z, rfl, _⟩ := h
    rfl
  · obtain ⟨z, rfl, hz, k⟩ := h
    have hl := len_tl z
    refine ⟨_, (pss_one (ps_ret (pe_and (pe_cmpR op_le (pe_callB call_len_str rfl T.len PySem.boot_len (pa_cons (pv 0) pa_nil)) (pe_glob (v := .int 60) rfl TT.most ⟨_, rfl⟩) (nomark _)) (pe_and (pe_bm0 PySem.F.plainAttrs_str PySem.F.slot_str_isascii PySem.F.type_str_isascii mt_isascii (pv 0)) (pe_one (pe_bm0 PySem.F.plainAttrs_str PySem.F.slot_str_isdigit PySem.F.type_str_isdigit mt_isdigit (pv 0))))))), ?_⟩
    refine ⟨_, rfl, z, rfl, hz.line, _, _, rfl, rfl, _, rfl, ite2 (fun h1 => ?_) (fun h1 => ?_)⟩
    · have h1 : (z.length : Int) ≤ 60 := of_decide_eq_true h1
      refine ⟨_, rfl, rfl, z, rfl, rfl, True.intro, _, rfl, ite2 (fun h2 => ?_) (fun h2 => ?_)⟩
      · exact ⟨_, rfl, rfl, z, rfl, rfl, True.intro, k _ (num_iff (by omega) h2)⟩
      · exact k _ ⟨fun q => Bool.noConfusion q, fun q => absurd (num_ascii q) h2⟩
    · have h1 : ¬ (z.length : Int) ≤ 60 := of_decide_eq_false (Bool.eq_false_iff.mpr h1)
      exact k _ ⟨fun q => Bool.noConfusion q, fun q => absurd q.1 (by omega)⟩
/-- the texts of ints below 10 ^ 120 -/
theorem log_of {n : Int} {k : Nat} (h : n.natAbs < 10 ^ k) (hk : (10 : Nat) ^ k < 2 ^ 1920) : n.natAbs.log2 < 1920 := by
  by_cases e : n.natAbs = 0
  · rw [e]
    decide
  · exact (Nat.log2_lt e).mpr (Nat.lt_trans h hk)
theorem len_numL {n k : Nat} (hk : 0 < k) (h : n < 10 ^ k) : (Str.ofString (toString ((n : Nat) : Int))).length ≤ k := by
  rw [len_tl, tl_num]
  exact numL_len hk h
theorem flat_len {l : List Str} {x : Str} (h : x ∈ l) : (tl x).length ≤ ((l.map tl).flatten).length := by
  induction l with
  | nil => cases h
  | cons a r ih =>
    rw [List.map_cons, List.flatten_cons, List.length_append]
    rcases List.mem_cons.mp h with h | h
    · rw [h]
      omega
    · have := ih h
      omega
theorem sum_len {l : List Str} {k : Nat} (h : ∀ x ∈ l, x.length ≤ k) : (l.map (·.length)).sum ≤ l.length * k := by
  induction l with
  | nil => simp
  | cons a r ih =>
    rw [List.map_cons, List.sum_cons, List.length_cons, Nat.succ_mul]
    have := h a List.mem_cons_self
    have := ih fun x hx => h x (List.mem_cons_of_mem _ hx)
    omega
theorem join_nil : ∀ l : List (List Nat), joinL [] l = l.flatten
  | [] => rfl
  | [p] => by simp [joinL]
  | p :: q :: r => by
    show p ++ ([] ++ joinL [] (q :: r)) = _
    rw [join_nil (q :: r)]
    rfl
abbrev sDc : Stmt := top 15
theorem scDc : FnScope ["number", "rest", "blocks", "digits"] ["number"] (defScope sDc) := ⟨rfl, rfl, rfl, by decide +kernel, rfl, by decide +kernel, by decide +kernel⟩
theorem ok_dec {CT f fT : Addr} {fd : FuncData} {t1 t2 t3 : Tok} (F : Fun K "_decimal" "_decimal" sDc f fd) (T : Txt K mg C) (TT : TxtT K mg CT fT t1 t2 t3) : FnOk P w K mg base CX0 1 f fd ["number"] spDec := by
  refine F.ok scDc (fun vs H Q E h => ?_) (fun cdv A outer s H vs Q E hr h => ?_)
  · obtain ⟨n, rfl, _⟩ := h
    rfl
  · obtain ⟨n, rfl, hn, k⟩ := h
    have p60 : (0 : Int) < 10 ^ 60 := by decide
    refine ⟨_, (pss_cons (ps_set (i := 1) scDc.nd rfl (Or.inl rfl) (pe_callB call_abs rfl T.abs PyProof.Rows.boot_abs (pa_cons (pv 0) pa_nil)))
 (pss_cons (ps_set (i := 2) scDc.nd rfl (Or.inl rfl) (pe_lst pa_nil))
 (pss_cons (ps_while PassesOwn.never (pt_cmpR op_ge (pv 1) (pe_glob (v := .int (10 ^ 60)) rfl TT.blk ⟨_, rfl⟩) (nomark _)) (pss_cons (ps_expr (pe_bm PySem.F.plainAttrs_list PySem.F.slot_list_append PySem.F.type_list_append mt_append (pv 2) (pa_cons (pe_bm PySem.F.plainAttrs_str PySem.F.slot_str_zfill PySem.F.type_str_zfill mt_zfill (pe_callTy call_str_int rfl TT.str PyProof.Rows.boot_str (pa_cons (pe_op op_mod (pv 1) (pe_glob (v := .int (10 ^ 60)) rfl TT.blk ⟨_, rfl⟩)) pa_nil)) (pa_cons (pe_glob (v := .int 60) rfl TT.bd ⟨_, rfl⟩) pa_nil)) pa_nil)))
 (pss_one (ps_set (i := 1) scDc.nd rfl (Or.inl rfl) (pe_op op_fdivNW (pv 1) (pe_glob (v := .int (10 ^ 60)) rfl TT.blk ⟨_, rfl⟩))))))
 (pss_cons (ps_expr (pe_bm PySem.F.plainAttrs_list PySem.F.slot_list_append PySem.F.type_list_append mt_append (pv 2) (pa_cons (pe_callTy call_str_int rfl TT.str PyProof.Rows.boot_str (pa_cons (pv 1) pa_nil)) pa_nil)))
 (pss_cons (ps_set (i := 3) scDc.nd rfl (Or.inl rfl) (pe_bm PySem.F.plainAttrs_str PySem.F.slot_str_join PySem.F.type_str_join mt_join pe_str (pa_cons (pe_revL (pv 2)) pa_nil)))
 (pss_one (ps_ret (pe_ifExp (pt_cmpR op_lt (pv 0) pe_int (nomark _)) (pe_joined (PJ.cons pe_str (PJ.cons (pe_fmt (pv 3)) PJ.nil))) (pv 3))))))))), ?_⟩
    refine ⟨_, rfl, _, rfl, by show 0 ≤ sizeLine; decide, fun o ho => ?_⟩
    have x0 : Ex H (upd H o (.lst [])) := Ex.new ho
    generalize hN : (if n < 0 then -n else n) = N
    have N0 : 0 ≤ N ∧ N.toNat = n.natAbs := by rw [← hN]; split <;> omega
    have hNL : numT n = (if n < 0 then [45] else []) ++ numL N.toNat := by
      unfold numT
      rw [N0.2]
      split <;> rfl
    refine ⟨fun m σ H' => ∃ (r : Int) (bs : List Str), σ = [some (.int n), some (.int r), some (.ref o), none] ∧ Ex H H' ∧ H' o = some (.lst (bs.map V.str)) ∧ 0 ≤ r ∧ r < 10 ^ 120 ∧ bs.length ≤ 1 ∧ numL N.toNat = numL r.toNat ++ (bs.map tl).flatten ∧ (m = 0 → r < 10 ^ 60) ∧ m ≤ 1 ∧ (m = 1 → bs = []), ⟨1, N, [], rfl, x0, upd_same, N0.1, ?_, by decide, (List.append_nil _).symm, (fun z => by cases z), by decide, fun _ => rfl⟩, ?_⟩
    · have : N.toNat < 10 ^ 120 := by rw [N0.2]; exact hn
      omega
    rintro m σ H' ⟨r, bs, rfl, e, hO, r0, r1, hb, hL, m0, m1, mb⟩
    refine ⟨_, rfl, _, _, rfl, rfl, _, rfl, ite2 (fun h1 => ?_) (fun h1 => ?_)⟩
    · have h1 : (10 : Int) ^ 60 ≤ r := of_decide_eq_true h1
      obtain rfl : m = 1 := by
        rcases Nat.le_one_iff_eq_zero_or_eq_one.mp m1 with z | z
        · exact absurd (m0 z) (by omega)
        · exact z
      obtain rfl := mb rfl
      refine ⟨fun σ' H' => ∃ m', m' < 1 ∧ ∃ (r : Int) (bs : List Str), σ' = [some (.int n), some (.int r), some (.ref o), none] ∧ Ex H H' ∧ H' o = some (.lst (bs.map V.str)) ∧ 0 ≤ r ∧ r < 10 ^ 120 ∧ bs.length ≤ 1 ∧ numL N.toNat = numL r.toNat ++ (bs.map tl).flatten ∧ (m' = 0 → r < 10 ^ 60) ∧ m' ≤ 1 ∧ (m' = 1 → bs = []), fun _ _ z => z, ?_⟩
      have q0 := Int.emod_nonneg r (show (10 : Int) ^ 60 ≠ 0 by decide)
      have q1 := Int.emod_lt_of_pos r p60
      have hm : (r % 10 ^ 60).toNat < 10 ^ 60 := by omega
      have cm : ((r % 10 ^ 60).toNat : Int) = r % 10 ^ 60 := by omega
      refine ⟨_, rfl, .inl ⟨rfl, _, SqL.of hO⟩, _, rfl, _, _, rfl, rfl, p60, _, rfl, log_of (k := 60) (by omega) (by decide +kernel), rfl, _, _, rfl, rfl, (by decide +kernel : PadOk 60 = true), o, _, _, rfl, rfl, hO, ?_, ?_⟩
      · show ([] : List V).length < sizeLine
        rw [sizeLine_eq]
        decide
      have d1 : (10 : Int) ^ 60 ≠ 0 := by decide
      have l60 : ((10 : Int) ^ 60).natAbs.log2 < 9000 := by decide +kernel
      have fd : r.fdiv (10 ^ 60) = r / 10 ^ 60 := Int.fdiv_eq_ediv_of_nonneg r (by decide)
      have e2 : r / 10 ^ 60 * 10 ^ 60 + r % 10 ^ 60 = r := by rw [Int.mul_comm]; exact Int.mul_ediv_add_emod r _
      have g1 : 1 ≤ r / 10 ^ 60 := by omega
      have g2 : r / 10 ^ 60 < 10 ^ 60 := by omega
      refine ⟨_, rfl, _, _, rfl, rfl, ⟨d1, l60⟩, 0, by decide, _, [Txt.zfill (Str.ofString (toString (r % 10 ^ 60))) 60], rfl, Evl.Ex.mut e ho, by rw [upd_same]; rfl, by rw [fd]; omega, by rw [fd]; omega, by show 1 ≤ 1; decide, ?_, fun _ => by rw [fd]; exact g2, by decide, fun z => by cases z⟩
      have tz : tl (Str.ofString (toString (r % 10 ^ 60))) = numL (r % 10 ^ 60).toNat := by
        rw [← cm]
        exact tl_num _
      rw [hL, fd]
      show numL r.toNat ++ [] = numL (r / 10 ^ 60).toNat ++ (tl (Txt.zfill (Str.ofString (toString (r % 10 ^ 60))) 60) ++ [])
      rw [List.append_nil, List.append_nil, zfill_tl (n := 60) (k := 60) rfl (by rw [tz]; exact numL_digits _) (by rw [tz]; exact numL_len (by decide) hm), tz, ← numL_block 60 _ _ (by decide) (by omega) hm]
      congr 1
      omega
    · have h1 : r < 10 ^ 60 := by
        have := of_decide_eq_false (Bool.eq_false_iff.mpr h1)
        omega
      have cr : ((r.toNat : Nat) : Int) = r := by omega
      have tr : tl (Str.ofString (toString r)) = numL r.toNat := by
        rw [← cr]
        exact tl_num _
      refine ⟨_, rfl, .inl ⟨rfl, _, SqL.of hO⟩, _, rfl, _, rfl, log_of (k := 60) (by omega) (by decide +kernel), o, _, _, rfl, rfl, hO, ?_, ?_⟩
      · rw [List.length_map, sizeLine_eq]
        omega
      have hO2 : ∀ {ys : List V}, upd H' o (.lst ys) o = some (.lst ys) := upd_same
      have e2 : ∀ {u : HO}, Ex H (upd H' o u) := Evl.Ex.mut e ho
      refine ⟨rfl, _, rfl, o, _, rfl, SqL.of upd_same, fun p hp => ⟨Str.empty, p, (bs ++ [Str.ofString (toString r)]).reverse, rfl, rfl, .inl (SqL.of (by rw [upd_same, List.map_reverse, List.map_append]; rfl)), ?_, ?_⟩⟩
      · have hl : ∀ x ∈ bs ++ [Str.ofString (toString r)], x.length ≤ 200 := by
          intro x hx
          have z := congrArg List.length hL
          rw [List.length_append] at z
          have zN : (numL N.toNat).length ≤ 120 := numL_len (by decide) (by rw [N0.2]; exact hn)
          rcases List.mem_append.mp hx with hx | hx
          · have := flat_len hx
            rw [len_tl]
            omega
          · rw [List.mem_singleton.mp hx, len_tl, tr]
            omega
        have q := sum_len (l := (bs ++ [Str.ofString (toString r)]).reverse) (fun x hx => hl x (List.mem_reverse.mp hx))
        have e0 : Str.empty.length = 0 := rfl
        rw [e0, Nat.mul_zero, Nat.add_zero]
        rw [List.length_reverse, List.length_append, List.length_singleton] at q
        omega
      · have hT : tl (Txt.join Str.empty (bs ++ [Str.ofString (toString r)]).reverse) = numL N.toNat := by
          rw [join_eq, tl_join, show tl Str.empty = [] from rfl, join_nil, hL]
          match bs, hb with
          | [], _ =>
            show tl (Str.ofString (toString r)) ++ [] = numL r.toNat ++ []
            rw [tr]
          | [b], _ =>
            show tl (Str.ofString (toString r)) ++ (tl b ++ []) = numL r.toNat ++ (tl b ++ [])
            rw [tr]
        have e3 : Ex H (upd (upd H' o (.lst (bs.map V.str ++ [V.str (Str.ofString (toString r))]))) p (.lst ((bs ++ [Str.ofString (toString r)]).reverse.map V.str))) := e2.trans (Ex.new hp)
        have e4 : ∀ H2, upd (upd H' o (.lst (bs.map V.str ++ [V.str (Str.ofString (toString r))]))) p (.lst (bs.map V.str ++ [V.str (Str.ofString (toString r))]).reverse) = H2 → Ex H H2 := by
          rintro _ rfl
          exact e2.trans (Ex.new hp)
        refine ⟨_, rfl, _, _, rfl, rfl, _, rfl, ite2 (fun h2 => ?_) (fun h2 => ?_)⟩
        · have h2 : n < 0 := of_decide_eq_true h2
          have lj : (Txt.join Str.empty (bs ++ [Str.ofString (toString r)]).reverse).length ≤ 200 := by
            rw [len_tl, hT]
            exact Nat.le_trans (numL_len (k := 120) (by decide) (by rw [N0.2]; exact hn)) (by decide)
          refine ⟨_, rfl, (by show 1 ≤ sizeLine; rw [sizeLine_eq]; decide), _, rfl, .inl ⟨_, rfl, (by rw [sizeLine_eq]; omega), _, rfl, ?_, ?_⟩⟩
          · rw [len_tl, tl_append, List.length_append, ← len_tl, ← len_tl, sizeLine_eq]
            show 1 + _ ≤ _
            omega
          · refine k _ _ (e4 _ rfl) ?_
            rw [tl_append, hT, hNL, if_pos h2]
            rfl
        · have h2 : ¬ n < 0 := of_decide_eq_false (Bool.eq_false_iff.mpr h2)
          refine ⟨_, rfl, ?_⟩
          exact k _ _ (e4 _ rfl) (by rw [hT, hNL, if_neg h2]; rfl)


abbrev sSt : Stmt := inClass (top 11) 2
theorem scSt : FnScope ["self"] ["self"] (defScope sSt) := ⟨rfl, rfl, rfl, by decide +kernel, rfl, by decide +kernel, by decide +kernel⟩
theorem strM_len {t b : Int} (ht : t.natAbs < 10 ^ 120) (hb : b.natAbs < 10 ^ 120) : (strM t b).length ≤ 243 := by
  have k : ∀ z : Int, z.natAbs < 10 ^ 120 → (numT z).length ≤ 121 := fun z hz => by
    have := numL_len (n := z.natAbs) (k := 120) (by decide) hz
    unfold numT
    split
    · rw [List.length_cons]
      omega
    · omega
  have h1 := k t ht
  have h2 := k b hb
  unfold strM
  split
  · omega
  · rw [List.length_append, List.length_cons]
    omega
theorem ok_str {f : Addr} {fd : FuncData} (F : Fun K "__str__" "Moment.__str__" sSt f fd) (T : Txt K mg C) (OD : Ok P w K mg base CX0 1 "_decimal" ["number"] spDec) : FnOk P w K mg base CX0 2 f fd ["self"] (spStr C) := by
  obtain ⟨fDc, fdDc, GDc, mDc, kDc, bDc⟩ := OD
  refine F.ok scSt (fun vs H Q E h => ?_) (fun cdv A outer s H vs Q E hr h => ?_)
  · obtain ⟨x, t, b, rfl, _⟩ := h
    rfl
  · obtain ⟨x, t, b, rfl, hM, ht, hb, k⟩ := h
    have ll : ∀ {z : Str} {l : List Nat}, tl z = l → l.length ≤ 243 → z.length ≤ sizeLine := fun e h => by
      rw [len_tl, e, sizeLine_eq]
      omega
    have sl := strM_len ht hb
    obtain ⟨a, dx, rfl, hM⟩ := hM
    refine ⟨_, (pss_cons (ps_if (pt_cmpR op_eq (pe_fld (pv 0) rfl) pe_int (nomark _)) (pss_one (ps_ret (pe_joined1 (pe_fmt (pe_call GDc (hr.mono (by decide)) rfl mDc kDc bDc .nil pass0 (pa_cons (pe_fld (pv 0) rfl) pa_nil)))))) pss_nil)
 (pss_one (ps_ret (pe_joined (PJ.cons (pe_fmt (pe_call GDc (hr.mono (by decide)) rfl mDc kDc bDc .nil pass0 (pa_cons (pe_fld (pv 0) rfl) pa_nil))) (PJ.cons pe_str (PJ.cons (pe_fmt (pe_call GDc (hr.mono (by decide)) rfl mDc kDc bDc .nil pass0 (pa_cons (pe_fld (pv 0) rfl) pa_nil))) PJ.nil))))))), ?_⟩
    refine ⟨_, rfl, a, C, dx, _, _, rfl, hM, T.cl, T.nB, mf_bottom _ _, rfl, _, rfl, ite2 (fun h1 => ?_) (fun h1 => ?_)⟩
    · have h1 : b = 1 := by
        have z := of_decide_eq_true h1
        injection z
      subst h1
      have es : strM t 1 = numT t := if_pos rfl
      rw [es] at sl
      refine ⟨_, rfl, a, C, dx, _, _, rfl, hM, T.cl, T.nT, mf_top _ _, t, rfl, ht, fun z H1 e1 hz => .inl ⟨_, rfl, ll hz sl, ?_⟩⟩
      exact k z H1 e1 (by rw [hz, es])
    · have h1 : b ≠ 1 := fun z => h1 (decide_eq_true (by rw [z]))
      have es : strM t b = numT t ++ 47 :: numT b := if_neg h1
      rw [es] at sl
      rw [List.length_append, List.length_cons] at sl
      refine ⟨_, rfl, a, C, dx, _, _, rfl, hM, T.cl, T.nT, mf_top _ _, t, rfl, ht, fun z H1 e1 hz => .inl ⟨_, rfl, ll hz (by omega), _, rfl, ?_, ?_⟩⟩
      · rw [len_tl, tl_append, List.length_append, hz, sizeLine_eq]
        show 0 + _ ≤ _
        omega
      refine ⟨_, rfl, ?_, ?_⟩
      · rw [len_tl, tl_append, tl_append, List.length_append, List.length_append, hz, sizeLine_eq]
        show 0 + _ + 1 ≤ _
        omega
      refine ⟨_, rfl, a, C, dx, _, _, rfl, e1 _ _ hM, T.cl, T.nB, mf_bottom _ _, b, rfl, hb, fun z2 H2 e2 hz2 => .inl ⟨_, rfl, ll hz2 (by omega), _, rfl, ?_, ?_⟩⟩
      · rw [len_tl, tl_append, tl_append, tl_append, List.length_append, List.length_append, List.length_append, hz, hz2, sizeLine_eq]
        show 0 + _ + 1 + _ ≤ _
        omega
      · refine k _ H2 (e1.trans e2) ?_
        rw [es, tl_append, tl_append, tl_append, hz, hz2, List.append_assoc]
        rfl
theorem pre_tl {z : Str} : tl (Txt.removeprefix z "-") = bare (tl z) := by
  have hy : (("-" : Str)).length = 1 := rfl
  have hl := len_tl z
  have sub : ∀ k : Bool, Builtin.Str.subAt z "-" 0 = k → (k = true ↔ (tl z).take 1 = [45]) := by
    intro k e
    rw [← e, StrLaws.subAt_eq]
    exact beq_iff_eq
  unfold Txt.removeprefix
  cases e : Builtin.Str.subAt z "-" 0 with
  | false =>
    show tl z = _
    have z1 := sub _ e
    cases c : tl z with
    | nil => rfl
    | cons a r =>
      rw [c] at z1
      by_cases h : a = 45
      · exact absurd (z1.mpr (by rw [h]; rfl)) (by decide)
      · unfold bare
        split
        · rename_i q
          injection q with q _
          exact absurd q h
        · rfl
  | true =>
    have z1 := (sub _ e).mp rfl
    show tl (Txt.affix z (some (("-" : Str).length, z.length))) = _
    unfold Txt.affix
    cases c : tl z with
    | nil =>
      rw [c] at z1
      cases z1
    | cons a r =>
      rw [c] at z1
      have : a = 45 := by simpa using z1
      subst this
      rw [c] at hl
      show tl (if (z.length - 1 == z.length) = true then z else Builtin.Str.strSub z 1 z.length) = r
      rw [if_neg (by rw [beq_iff_eq, hl, List.length_cons]; omega), tl_strSub_end, c]
      rfl
theorem int_of {z : Str} (h : Nm (bare (tl z))) : intText? z = some (sval (tl z)) := by
  have hl := len_tl z
  cases c : tl z with
  | nil =>
    rw [c] at h
    exact absurd rfl h.2.1
  | cons a r =>
    rw [c] at h
    rw [c] at hl
    by_cases e : a = 45
    · subst e
      have h : Nm r := h
      have := h.1
      rw [List.length_cons] at hl
      exact PySem.intText_neg c h.2.2 h.2.1 (by omega)
    · have hb : bare (a :: r) = a :: r := by
        unfold bare
        split
        · rename_i q
          injection q with q _
          exact absurd q e
        · rfl
      rw [hb] at h
      have := h.1
      rw [sval_digits h.2.2]
      have c' := c
      rw [← c']
      exact PySem.intText_digits (show NumText.AllDigits (tl z) from c ▸ h.2.2) (show tl z ≠ [] from c ▸ h.2.1) (by omega)
theorem nm_len {z : Str} (h : Nm (bare (tl z))) : z.length ≤ 640 := by
  have hl := len_tl z
  have h1 := h.1
  have : (tl z).length ≤ (bare (tl z)).length + 1 := by
    unfold bare
    split
    · rename_i q
      rw [q, List.length_cons]
      omega
    · omega
  omega
theorem int_bare {z : Str} (h : Nm (tl z)) : intText? z = some ((NumText.digitsVal (tl z) : Nat) : Int) := by
  have hb := bare_digits h.2.2
  rw [← sval_digits h.2.2]
  exact int_of (by rw [hb]; exact h)
/-- a text cut at its first slash -/
theorem part47 (z : Str) : (47 ∉ tl z ∧ Txt.partition z "/" = (z, Str.empty, Str.empty)) ∨ ∃ a b : Str, z = a ++ "/" ++ b ∧ 47 ∉ tl a ∧ Txt.partition z "/" = (a, ("/" : Str), b) := by
  rcases split47 (tl z) with h | ⟨x, y, e, hx⟩
  · exact .inl ⟨h, partition_none (y := "/") (s := 47) (S := []) rfl h⟩
  · have ez : z = (⟨x.toArray⟩ : Str) ++ "/" ++ (⟨y.toArray⟩ : Str) := ext_tl (by rw [tl_append, tl_append, e, List.append_assoc]; rfl)
    refine .inr ⟨_, _, ez, hx, ?_⟩
    rw [ez]
    exact partition_app (y := "/") (s := 47) (S := []) rfl hx
theorem TOk.pre {z : Str} (h : TOk z) : TOk (Txt.removeprefix z "-") := by
  have k : ∀ c ∈ bare (tl z), c ∈ tl z := fun c hc => by
    unfold bare at hc
    split at hc
    · rename_i q
      rw [q]
      exact List.mem_cons_of_mem _ hc
    · exact hc
  have kl : (bare (tl z)).length ≤ (tl z).length := by
    unfold bare
    split
    · rename_i q
      rw [q, List.length_cons]
      omega
    · omega
  have h1 := h.1
  rw [len_tl] at h1
  refine ⟨?_, fun c hc => h.2 c (k c (by rw [← pre_tl]; exact hc))⟩
  rw [len_tl, pre_tl]
  omega
theorem TOk.parts {a b : Str} (h : TOk (a ++ "/" ++ b)) : TOk a ∧ TOk b := by
  have h1 := h.1
  rw [len_tl, tl_append, tl_append, List.length_append, List.length_append, ← len_tl, ← len_tl, ← len_tl] at h1
  have h2 := h.2
  rw [tl_append, tl_append] at h2
  exact ⟨⟨by omega, fun c hc => h2 c (List.mem_append_left _ (List.mem_append_left _ hc))⟩, ⟨by omega, fun c hc => h2 c (List.mem_append_right _ hc)⟩⟩
theorem nm1 : Nm (tl ("1" : Str)) := ⟨by decide, by decide, by intro c hc; have : c = 49 := List.mem_singleton.mp (show c ∈ ([49] : List Nat) from hc)
                                                               omega⟩
theorem tok1 : TOk ("1" : Str) := ⟨by decide, by intro c hc; have : c = 49 := List.mem_singleton.mp (show c ∈ ([49] : List Nat) from hc)
                                                 omega⟩
theorem int1 : intText? ("1" : Str) = some 1 := int_bare nm1
theorem one_of {n t b : Int} (N : Norm n 1 t b) : t = n ∧ b = 1 := by
  have h1 := N.pos
  have h2 := N.ble
  have h3 : b = 1 := by omega
  have h4 := N.eq
  rw [h3] at h4
  exact ⟨by omega, h3⟩
theorem lkh7 {f : Str} {x : V} {l : List (Str × V)} : ((f, x) :: l).lookup f = some x := by rw [lookup_put, if_pos rfl]
theorem sm200 {n : Int} (h : n.natAbs < 10 ^ 60) : Sm 200 n := Nat.lt_trans h (by decide +kernel)
abbrev sRd : Stmt := inClass (top 11) 1
theorem scRd : FnScope ["text", "top", "slash", "bottom", "under", "found"] ["text"] (defScope sRd) := ⟨rfl, rfl, rfl, by decide +kernel, rfl, by decide +kernel, by decide +kernel⟩
theorem ok_read {CT f fT fS : Addr} {fd fdT fdS : FuncData} {t1 t2 t3 : Tok} (F : Fun K "read" "Moment.read" sRd f fd) (T : Txt K mg C) (TT : TxtT K mg CT fT t1 t2 t3) (FNT : Fun K "__init__" "NoText.__init__" sNT fT fdT) (bNT : Binds K fdT ["self", "text"] []) (OK : Ok P w K mg base CX0 1 "_kept" ["value"] (spKept K))
    (OI : OkI P w K mg base C CN) (ON : Ok P w K mg base CX0 1 "_is_number" ["text"] spIsNum) (GS : FnOk P w K mg base CX0 2 fS fdS ["self"] (spStr C)) (aS : PySem.W.findIn K (.ref C) "__str__" = some (some (.ref fS))) (iS : PySem.W.isFn K (.ref fS) = true) (bS : Binds K fdS ["self"] []) :
    FnOk P w K mg base (L2.CX P w) 6 f fd ["text"] (spRead C CT) := by
  have GNT : FnOk P w K mg base CX0 2 fT fdT ["self", "text"] (spNoT K CT) := ok_notext FNT TT OK
  obtain ⟨fI, fdI, dsI, GI, MkC, bI, vI1, bI1⟩ := OI
  obtain ⟨fN2, fdN2, GN2, mN2, kN2, bN2⟩ := ON
  refine F.okX scRd (fun vs H Q E h => ?_) (fun cdv A outer s H vs Q E hr h => ?_)
  · obtain ⟨z, rfl, _⟩ := h
    rfl
  · obtain ⟨z, rfl, hz, kQ, kE⟩ := h
    let X := cxOf (L2.CX P w) P w K mg base ["text", "top", "slash", "bottom", "under", "found"] "Moment.read" (defScope sRd) f cdv A outer s H E
    have oStr := str_own (X := X) (C := C) (E := E0) aS iS GS (hr.mono (by decide)) bS pass0
    refine ⟨_, (pss_cons (ps_asg (pe_bm PySem.F.plainAttrs_str PySem.F.slot_str_partition PySem.F.type_str_partition mt_partition (pv 0) (pa_cons pe_str pa_nil)) (pg_tup rfl (pgs_cons (pg_name (i := 1) scRd.nd rfl (Or.inl rfl)) (pgs_cons (pg_name (i := 2) scRd.nd rfl (Or.inl rfl)) (pgs_cons (pg_name (i := 3) scRd.nd rfl (Or.inl rfl)) pgs_nil)))))
 (pss_cons (ps_set (i := 4) scRd.nd rfl (Or.inl rfl) (pe_ifExp (pt_truth (pv 2) (fun _ => rfl)) (pv 3) pe_str))
 (pss_cons (ps_if (PW.pt (pw_and (pt_val (pe_call GN2 (hr.mono (by decide)) rfl mN2 kN2 bN2 .nil pass0 (pa_cons (pe_bm PySem.F.plainAttrs_str PySem.F.slot_str_removeprefix PySem.F.type_str_removeprefix mt_removeprefix (pv 1) (pa_cons pe_str pa_nil)) pa_nil))) (pw_and (pt_val (pe_call GN2 (hr.mono (by decide)) rfl mN2 kN2 bN2 .nil pass0 (pa_cons (pv 4) pa_nil))) (pw_and1 (pt_cmpR op_gt (pe_callTy call_int_str rfl T.int PyProof.Rows.boot_int (pa_cons (pv 4) pa_nil)) pe_int (nomark _)))))) (pss_cons (ps_set (i := 5) scRd.nd rfl (Or.inl rfl) (pe_make MkC GI (hr.mono (by decide)) rfl T.mgC bI .nil passL (pa_cons (pe_callTy call_int_str rfl T.int PyProof.Rows.boot_int (pa_cons (pv 1) pa_nil)) (pa_cons (pe_callTy call_int_str rfl T.int PyProof.Rows.boot_int (pa_cons (pv 4) pa_nil)) pa_nil))))
 (pss_one (ps_if (pt_cmpR op_eq (pe_callTy oStr rfl TT.str PyProof.Rows.boot_str (pa_cons (pv 5) pa_nil)) (pv 0) (nomark _)) (pss_one (ps_ret (pv 5))) pss_nil))) pss_nil)
 (pss_one (ps_raise rfl (takes_of rfl rfl rfl rfl) (pmk_oex TT.ox TT.iC TT.tI GNT (hr.mono (by decide)) bNT .nil pass0 rfl TT.mgT (pa_cons (pv 0) pa_nil))))))), ?_⟩
    refine ⟨_, rfl, rfl, z, "/", rfl, rfl, rfl, hz.line, fun p hp => ?_⟩
    have e1 : Ex H (upd H p (.tup [.str (Txt.partition z "/").1, .str (Txt.partition z "/").2.1, .str (Txt.partition z "/").2.2])) := Ex.new hp
    refine ⟨p, _, rfl, SqT.of upd_same, rfl, ?_⟩
    generalize hH1 : upd H p (.tup [.str (Txt.partition z "/").1, .str (Txt.partition z "/").2.1, .str (Txt.partition z "/").2.2]) = H1 at e1 ⊢
    clear hH1
    rcases part47 z with ⟨hs, ep⟩ | ⟨a, b, ez, hs, ep⟩
    · rw [ep]
      refine ⟨_, _, rfl, _, _, rfl, _, _, rfl, rfl, ?_⟩
      refine ⟨_, rfl, false, ⟨by show 0 ≤ sizeLine; decide, rfl⟩, iteF ?_⟩
      refine ⟨_, rfl, rfl, z, "-", rfl, rfl, hz.line, _, rfl, hz.pre, fun k1 h1 => ?_⟩
      rw [pre_tl] at h1
      refine ⟨_, rfl, ite2 (fun q1 => ?_) (fun q1 => ?_)⟩
      · have hn : Nm (bare (tl z)) := h1.mp q1
        refine ⟨_, rfl, _, rfl, tok1, fun k2 h2 => ?_⟩
        obtain rfl : k2 = true := h2.mpr nm1
        refine ⟨_, rfl, iteT ?_⟩
        refine ⟨_, rfl, _, _, rfl, int1, (by decide), _, _, rfl, rfl, _, rfl, iteT ?_⟩
        refine ⟨_, rfl, _, _, rfl, int_of hn, nm_len hn, _, rfl, _, _, rfl, int1, (by decide), fun x dx i1 i2 i3 => ⟨x, dx, sval (tl z), 1, rfl, upd_same, (sm200 (sval_size hn)).mono (by decide), (sml (n := 1) (k := 2) (by decide)).mono (by decide), fun q => absurd q (by decide), fun _ t b N => ⟨rfl, ?_⟩⟩⟩
        obtain ⟨e2, ma⟩ := made_ok (C := C) t b i1 i2 i3
        have N' := N
        obtain ⟨et, eb⟩ := one_of N
        refine ⟨_, rfl, _, rfl, ma.isC, _, t, b, rfl, ma, ?_, ?_, fun z2 H2 e3 hz2 => ⟨z2, rfl, _, rfl, rfl, _, rfl, ite2 (fun q2 => ?_) (fun q2 => ?_)⟩⟩
        · rw [et]
          exact Nat.lt_trans (sval_size hn) (by decide +kernel)
        · rw [eb]
          decide +kernel
        · have q2 : z2 = z := by
            have q := of_decide_eq_true q2
            injection q
          have W : Written (tl z) := (read_plain hs hn).mp (by rw [← et, ← eb, ← hz2, q2])
          refine ⟨_, rfl, kQ W t b (sval (tl z)) 1 _ _ ((e1.trans e2).trans e3) (ma.ex e3) N'.red (.inl ⟨hs, rfl, rfl⟩) N'.eq ?_ ?_⟩
          · rw [et]
            exact sm200 (sval_size hn)
          · rw [eb]
            exact (sml (n := 1) (k := 2) (by decide)).mono (by decide)
        · have q2 : z2 ≠ z := fun q => q2 (decide_eq_true (by rw [q]))
          have W : ¬ Written (tl z) := fun W => q2 (ext_tl (by rw [hz2, et, eb, (read_plain hs hn).mpr W]))
          refine ⟨_, rfl, (by show 1 ≤ 1000; decide), fun ae ha => ⟨ae, _, rfl, upd_same, .str _, fun d1 n1 n2 => ⟨rfl, d1, _, upd_same, (by rw [upd_ne n2, upd_same]), ?_, ?_⟩⟩⟩
          · rw [upd_ne n2] at n1
            exact n1
          · rw [upd_ne n2] at n1
            refine kE (W) d1 _ _ lkh upd_same fun q o hq => ?_
            have hq := ((e1.trans e2).trans e3) _ _ hq
            have q1 : q ≠ d1 := ne_of_none hq n1
            have q2 : q ≠ ae := ne_of_none hq ha
            rw [upd_ne q1, del_ne q2, upd_ne q2, upd_ne q1, upd_ne q2]
            exact hq
      · have W : ¬ Written (tl z) := not_plain hs fun q => q1 (h1.mpr q)
        refine ⟨_, rfl, (by show 1 ≤ 1000; decide), fun ae ha => ⟨ae, _, rfl, upd_same, .str _, fun d1 n1 n2 => ⟨rfl, d1, _, upd_same, (by rw [upd_ne n2, upd_same]), ?_, ?_⟩⟩⟩
        · rw [upd_ne n2] at n1
          exact n1
        · rw [upd_ne n2] at n1
          refine kE (W) d1 _ _ lkh upd_same fun q o hq => ?_
          have hq := (e1) _ _ hq
          have q1 : q ≠ d1 := ne_of_none hq n1
          have q2 : q ≠ ae := ne_of_none hq ha
          rw [upd_ne q1, del_ne q2, upd_ne q2, upd_ne q1, upd_ne q2]
          exact hq
    · rw [ep]
      have hz' := hz
      rw [ez] at hz'
      obtain ⟨ta, tb⟩ := hz'.parts
      have el : tl z = tl a ++ 47 :: tl b := by
        rw [ez, tl_append, tl_append, List.append_assoc]
        rfl
      refine ⟨_, _, rfl, _, _, rfl, _, _, rfl, rfl, ?_⟩
      refine ⟨_, rfl, true, ⟨by show 1 ≤ sizeLine; rw [sizeLine_eq]; decide, rfl⟩, iteT ⟨_, rfl, ?_⟩⟩
      refine ⟨_, rfl, rfl, a, "-", rfl, rfl, ta.line, _, rfl, ta.pre, fun k1 h1 => ?_⟩
      rw [pre_tl] at h1
      refine ⟨_, rfl, ite2 (fun q1 => ?_) (fun q1 => ?_)⟩
      · have hn : Nm (bare (tl a)) := h1.mp q1
        refine ⟨_, rfl, _, rfl, tb, fun k2 h2 => ?_⟩
        refine ⟨_, rfl, ite2 (fun q2 => ?_) (fun q2 => ?_)⟩
        · have hm : Nm (tl b) := h2.mp q2
          have lb : b.length ≤ 640 := nm_len (by rw [bare_digits hm.2.2]; exact hm)
          refine ⟨_, rfl, _, _, rfl, int_bare hm, lb, _, _, rfl, rfl, _, rfl, ite2 (fun q3 => ?_) (fun q3 => ?_)⟩
          · have hp : 0 < NumText.digitsVal (tl b) := by
              have : (0 : Int) < ((NumText.digitsVal (tl b) : Nat) : Int) := of_decide_eq_true q3
              omega
            have sb : (((NumText.digitsVal (tl b) : Nat) : Int)).natAbs < 10 ^ 60 := val_size hm
            refine ⟨_, rfl, _, _, rfl, int_of hn, nm_len hn, _, rfl, _, _, rfl, int_bare hm, lb, fun x dx i1 i2 i3 => ⟨x, dx, sval (tl a), _, rfl, upd_same, (sm200 (sval_size hn)).mono (by decide), (sm200 sb).mono (by decide), fun q => absurd q (show ((NumText.digitsVal (tl b) : Nat) : Int) ≠ 0 by omega), fun _ t b' N => ⟨rfl, ?_⟩⟩⟩
            obtain ⟨e2, ma⟩ := made_ok (C := C) t b' i1 i2 i3
            have st := N.st (sm200 (sval_size hn))
            have sb' := N.sb (sm200 sb)
            have lt : t.natAbs < 10 ^ 120 := Nat.lt_of_le_of_lt N.tle (Nat.lt_trans (sval_size hn) (by decide +kernel))
            have lb' : b'.natAbs < 10 ^ 120 := Nat.lt_of_le_of_lt N.ble (Nat.lt_trans sb (by decide +kernel))
            refine ⟨_, rfl, _, rfl, ma.isC, _, t, b', rfl, ma, lt, lb', fun z2 H2 e3 hz2 => ⟨z2, rfl, _, rfl, rfl, _, rfl, ite2 (fun q4 => ?_) (fun q4 => ?_)⟩⟩
            · have q4 : z2 = z := by
                have q := of_decide_eq_true q4
                injection q
              have W : Written (tl z) := by
                rw [el]
                exact (read_frac hs hn hm hp N).mp (by rw [← hz2, q4, el])
              exact ⟨_, rfl, kQ W t b' _ _ _ _ ((e1.trans e2).trans e3) (ma.ex e3) N.red (.inr ⟨_, _, el, hs, rfl, rfl⟩) N.eq st sb'⟩
            · have q4 : z2 ≠ z := fun q => q4 (decide_eq_true (by rw [q]))
              have W : ¬ Written (tl z) := fun W => q4 (ext_tl (by rw [hz2, (read_frac hs hn hm hp N).mpr (by rw [← el]; exact W), el]))
              refine ⟨_, rfl, (by show 1 ≤ 1000; decide), fun ae ha => ⟨ae, _, rfl, upd_same, .str _, fun d1 n1 n2 => ⟨rfl, d1, _, upd_same, (by rw [upd_ne n2, upd_same]), ?_, ?_⟩⟩⟩
              · rw [upd_ne n2] at n1
                exact n1
              · rw [upd_ne n2] at n1
                refine kE (W) d1 _ _ lkh upd_same fun q o hq => ?_
                have hq := ((e1.trans e2).trans e3) _ _ hq
                have q1 : q ≠ d1 := ne_of_none hq n1
                have q2 : q ≠ ae := ne_of_none hq ha
                rw [upd_ne q1, del_ne q2, upd_ne q2, upd_ne q1, upd_ne q2]
                exact hq
          · have W : ¬ Written (tl z) := by
              rw [el]
              refine not_frac hs fun q => q3 (decide_eq_true ?_)
              have := q.2.2
              show (0 : Int) < ((NumText.digitsVal (tl b) : Nat) : Int)
              omega
            refine ⟨_, rfl, (by show 1 ≤ 1000; decide), fun ae ha => ⟨ae, _, rfl, upd_same, .str _, fun d1 n1 n2 => ⟨rfl, d1, _, upd_same, (by rw [upd_ne n2, upd_same]), ?_, ?_⟩⟩⟩
            · rw [upd_ne n2] at n1
              exact n1
            · rw [upd_ne n2] at n1
              refine kE (W) d1 _ _ lkh upd_same fun q o hq => ?_
              have hq := (e1) _ _ hq
              have q1 : q ≠ d1 := ne_of_none hq n1
              have q2 : q ≠ ae := ne_of_none hq ha
              rw [upd_ne q1, del_ne q2, upd_ne q2, upd_ne q1, upd_ne q2]
              exact hq
        · have W : ¬ Written (tl z) := by
            rw [el]
            exact not_frac hs fun q => q2 (h2.mpr q.2.1)
          refine ⟨_, rfl, (by show 1 ≤ 1000; decide), fun ae ha => ⟨ae, _, rfl, upd_same, .str _, fun d1 n1 n2 => ⟨rfl, d1, _, upd_same, (by rw [upd_ne n2, upd_same]), ?_, ?_⟩⟩⟩
          · rw [upd_ne n2] at n1
            exact n1
          · rw [upd_ne n2] at n1
            refine kE (W) d1 _ _ lkh upd_same fun q o hq => ?_
            have hq := (e1) _ _ hq
            have q1 : q ≠ d1 := ne_of_none hq n1
            have q2 : q ≠ ae := ne_of_none hq ha
            rw [upd_ne q1, del_ne q2, upd_ne q2, upd_ne q1, upd_ne q2]
            exact hq
      · have W : ¬ Written (tl z) := by
          rw [el]
          exact not_frac hs fun q => q1 (h1.mpr q.1)
        refine ⟨_, rfl, (by show 1 ≤ 1000; decide), fun ae ha => ⟨ae, _, rfl, upd_same, .str _, fun d1 n1 n2 => ⟨rfl, d1, _, upd_same, (by rw [upd_ne n2, upd_same]), ?_, ?_⟩⟩⟩
        · rw [upd_ne n2] at n1
          exact n1
        · rw [upd_ne n2] at n1
          refine kE (W) d1 _ _ lkh upd_same fun q o hq => ?_
          have hq := (e1) _ _ hq
          have q1 : q ≠ d1 := ne_of_none hq n1
          have q2 : q ≠ ae := ne_of_none hq ha
          rw [upd_ne q1, del_ne q2, upd_ne q2, upd_ne q1, upd_ne q2]
          exact hq
/-! ### the law's own texts -/
def TB (n : Nat) (z : Str) : Prop := z.length ≤ n ∧ ∀ c ∈ tl z, c < 0x110000
theorem TB.ok {n : Nat} {z : Str} (h : TB n z) (hn : n ≤ 400 := by decide) : TOk z := ⟨Nat.le_trans h.1 hn, h.2⟩
theorem TB.line {n : Nat} {z : Str} (h : TB n z) (hn : n ≤ 400 := by decide) : z.length ≤ sizeLine := (h.ok hn).line
theorem TB.cat {n m : Nat} {a b : Str} (h : TB n a) (h' : TB m b) : TB (n + m) (a ++ b) := by
  refine ⟨?_, fun c hc => ?_⟩
  · have h1 := h.1
    have h2 := h'.1
    rw [len_tl] at h1 h2
    rw [len_tl, tl_append, List.length_append]
    omega
  · rw [tl_append] at hc
    rcases List.mem_append.mp hc with hc | hc
    · exact h.2 c hc
    · exact h'.2 c hc
theorem TB.cut {n : Nat} {z : Str} (h : TB n z) (lo hi : Option Int) : TB n (cutS z lo hi) :=
  ⟨Nat.le_trans (cutS_length z lo hi) h.1, fun c hc => h.2 c (List.mem_of_mem_drop (List.mem_of_mem_take hc))⟩
theorem TB.catLine {n m : Nat} {a b : Str} (h : TB n a) (h' : TB m b) (hn : n + m ≤ 400 := by decide) : a.length + b.length ≤ sizeLine := by
  have h1 := h.1
  have h2 := h'.1
  rw [sizeLine_eq]
  omega
theorem tl_cut (z : Str) (lo hi : Option Int) : tl (cutS z lo hi) = ((tl z).drop (HT.sIx z.length 0 lo)).take (HT.sIx z.length z.length hi - HT.sIx z.length 0 lo) := rfl
theorem cut_to {z : Str} {k : Nat} (hk : k ≤ z.length) : tl (cutS z none (some (k : Int))) = (tl z).take k := by
  rw [tl_cut, HT.sIx_none, HT.sIx_nat, List.drop_zero, Nat.min_eq_left hk, Nat.sub_zero]
theorem cut_from {z : Str} {k : Nat} (hk : k ≤ z.length) : tl (cutS z (some (k : Int)) none) = (tl z).drop k := by
  rw [tl_cut, HT.sIx_none, HT.sIx_nat, Nat.min_eq_left hk]
  refine List.take_of_length_le ?_
  rw [List.length_drop, len_tl]
  exact Nat.le_refl _
theorem cut_one (z : Str) : tl (cutS z none (some 1)) = (tl z).take 1 := by
  rw [tl_cut, HT.sIx_none, show (1 : Int) = ((1 : Nat) : Int) from rfl, HT.sIx_nat, List.drop_zero, Nat.sub_zero]
  by_cases h : 1 ≤ z.length
  · rw [Nat.min_eq_left h]
  · have e : tl z = [] := List.length_eq_zero_iff.mp (by rw [← len_tl]; omega)
    rw [e, List.take_nil, List.take_nil]
theorem cut_tail (z : Str) : tl (cutS z (some 1) none) = (tl z).drop 1 := by
  by_cases h : 1 ≤ z.length
  · exact cut_from (k := 1) h
  · have e : tl z = [] := List.length_eq_zero_iff.mp (by rw [← len_tl]; omega)
    rw [tl_cut, e, List.drop_nil, List.drop_nil, List.take_nil]
def spLNum : Sp := fun vs H Q _ => ∃ (z : Str) (s : Int), vs = [.str z, .int s] ∧ TOk z ∧ ∀ (k : Bool) (H' : Hp), Ex H H' → (k = true ↔ LN (decide (s < 0)) (tl z)) → Q (.bl k) H'
def spWrit : Sp := fun vs H Q _ => ∃ z : Str, vs = [.str z] ∧ TOk z ∧ ∀ (k : Bool) (H' : Hp), Ex H H' → (k = true ↔ Written (tl z)) → Q (.bl k) H'
def spLw7 : Sp := fun vs H Q _ => ∃ n d : Int, vs = [.int n, .int d] ∧ 0 < d ∧ Sm 1000 n ∧ Sm 1000 d ∧ ∀ (t b : Int) (p : Addr) (H' : Hp), Ex H H' → H' p = some (.tup [.int t, .int b]) → Norm n d t b → Q (.ref p) H'
def spPrn : Sp := fun vs H Q _ => ∃ (p : Addr) (t b : Int), vs = [.ref p] ∧ H p = some (.tup [.int t, .int b]) ∧ 0 < b ∧ t.natAbs < 10 ^ 62 ∧ b.natAbs < 10 ^ 62 ∧ ∀ z : Str, tl z = strM t b → Q (.str z) H
def spSign : Sp := fun vs H Q _ => ∃ k : Int, vs = [.int k] ∧ ∀ z : Str, TB 1 z → Q (.str z) H
def spSpoilt : Sp := fun vs H Q _ => ∃ (z : Str) (a b c : Int), vs = [.str z, .int a, .int b, .int c] ∧ TB 130 z ∧ ∀ z' : Str, TOk z' → Q (.str z') H
def spNear : Sp := fun vs H Q _ => ∃ k : Int, vs = [.int k] ∧ ∀ (z : Str) (H' : Hp), Ex H H' → TOk z → Q (.str z) H'
/-- the signs that are no digits -/
def odd (l : List Nat) : List Nat := l.filter fun c => !decide (c ∈ ([48, 49, 50, 51, 52, 53, 54, 55, 56, 57] : List Nat))
theorem odd_nil {l : List Nat} : odd l = [] ↔ NumText.AllDigits l := by
  have k : ∀ c : Nat, (!decide (c ∈ ([48, 49, 50, 51, 52, 53, 54, 55, 56, 57] : List Nat))) = true ↔ ¬ (48 ≤ c ∧ c ≤ 57) := by
    intro c
    rw [Bool.not_eq_true', decide_eq_false_iff_not]
    simp only [List.mem_cons, List.not_mem_nil, or_false]
    omega
  unfold odd
  rw [List.filter_eq_nil_iff]
  constructor
  · intro h c hc
    exact Classical.byContradiction fun z => h c hc ((k c).mpr z)
  · intro h c hc z
    exact (k c).mp z (h c hc)
def oneV (c : Nat) : V := .str ⟨#[c]⟩
theorem dp_ones {K : PySem.W.Frag} {H : Hp} : ∀ l : List Nat, DpAll K H (l.map oneV) (l.map fun c => PyData.str ⟨#[c]⟩)
  | [] => .nil
  | c :: r => .cons (.str _) (dp_ones r)
theorem shaped_ones {l : List Nat} (h : ∀ c ∈ l, c < 0x110000) : SeqAt.shaped (.list (l.map fun c => PyData.str ⟨#[c]⟩)) = true := by
  have k1 : ∀ l : List Nat, (∀ c ∈ l, c < 0x110000) → PyData.canLayAll0 (l.map fun c => PyData.str ⟨#[c]⟩) = true := by
    intro l
    induction l with
    | nil => intro _; rfl
    | cons c r ih =>
      intro h
      show (PyData.strOk ⟨#[c]⟩ && PyData.canLayAll0 (r.map fun c => PyData.str ⟨#[c]⟩)) = true
      rw [ih fun c hc => h c (List.mem_cons_of_mem _ hc), Bool.and_true]
      show (#[c] : Array Nat).all (· < 0x110000) = true
      have := h c List.mem_cons_self
      simp [this]
  have k2 : ∀ l : List Nat, PyData.depthAll (l.map fun c => PyData.str ⟨#[c]⟩) = 0 := by
    intro l
    induction l with
    | nil => rfl
    | cons c r ih =>
      show max 0 (PyData.depthAll (r.map fun c => PyData.str ⟨#[c]⟩)) = 0
      rw [ih]
      rfl
  unfold SeqAt.shaped
  rw [Bool.and_eq_true, decide_eq_true_eq]
  refine ⟨k1 l h, ?_⟩
  show PyData.depthAll _ + 1 ≤ 64
  rw [k2]
  decide
theorem eqv_ones {l : List Nat} : PyData.eqv (.list (l.map fun c => PyData.str ⟨#[c]⟩)) (.list []) = decide (l = []) := by
  cases l with
  | nil => rfl
  | cons c r => rfl
theorem find47 (z : Str) : (47 ∉ tl z ∧ Txt.find z "/" = -1) ∨ ∃ a b : Str, z = a ++ "/" ++ b ∧ 47 ∉ tl a ∧ Txt.find z "/" = (a.length : Int) ∧ a.length + 1 + b.length = z.length := by
  have hy : tl ("/" : Str) ≠ [] := by intro h; cases h
  have at47 : ∀ i, StrLaws.At z "/" z.length i ↔ (tl z)[i]? = some 47 := by
    intro i
    rw [at_iff hy]
    show (((tl z).drop i).take 1 == [47]) = true ↔ _
    rw [beq_iff_eq]
    cases e : (tl z).drop i with
    | nil =>
      have := congrArg List.head? e
      rw [List.head?_drop] at this
      rw [this]
      constructor <;> intro h <;> cases h
    | cons a r =>
      have := congrArg List.head? e
      rw [List.head?_drop] at this
      rw [this]
      simp
  rcases split47 (tl z) with h | ⟨x, y, e, hx⟩
  · rcases PyProof.Rows.find_whole z "/" with ⟨q, _⟩ | ⟨i, _, q, _⟩
    · exact .inl ⟨h, q⟩
    · exact absurd (List.mem_of_getElem? ((at47 i).mp q)) h
  · have ez : z = (⟨x.toArray⟩ : Str) ++ "/" ++ (⟨y.toArray⟩ : Str) := ext_tl (by rw [tl_append, tl_append, e, List.append_assoc]; rfl)
    have lx : (⟨x.toArray⟩ : Str).length = x.length := by rw [len_tl]
    have ly : (⟨y.toArray⟩ : Str).length = y.length := by rw [len_tl]
    have lz : x.length + 1 + y.length = z.length := by
      rw [len_tl, e, List.length_append, List.length_cons]
      omega
    have hat : (tl z)[x.length]? = some 47 := by
      rw [e, List.getElem?_append_right (Nat.le_refl _), Nat.sub_self]
      rfl
    refine .inr ⟨_, _, ez, hx, ?_, by rw [lx, ly]; exact lz⟩
    rw [lx]
    rcases PyProof.Rows.find_whole z "/" with ⟨_, q⟩ | ⟨i, q1, q2, q3⟩
    · exact absurd ((at47 _).mpr hat) (q _)
    · rw [q1]
      have h1 : i ≤ x.length := Nat.le_of_not_lt fun hlt => q3 _ hlt ((at47 _).mpr hat)
      have h2 : ¬ i < x.length := fun hlt => by
        have z1 := (at47 i).mp q2
        rw [e, List.getElem?_append_left hlt] at z1
        exact hx (List.mem_of_getElem? z1)
      have : i = x.length := by omega
      rw [this]
theorem odd_yes {l : List Nat} {c : Nat} (h : (!decide (c ∈ ([48, 49, 50, 51, 52, 53, 54, 55, 56, 57] : List Nat))) = true) : odd (l ++ [c]) = odd l ++ [c] := by
  unfold odd
  rw [List.filter_append, List.filter_cons_of_pos (p := fun c => !decide (c ∈ ([48, 49, 50, 51, 52, 53, 54, 55, 56, 57] : List Nat))) h]
  rfl
theorem odd_no {l : List Nat} {c : Nat} (h : ¬ (!decide (c ∈ ([48, 49, 50, 51, 52, 53, 54, 55, 56, 57] : List Nat))) = true) : odd (l ++ [c]) = odd l := by
  unfold odd
  rw [List.filter_append, List.filter_cons_of_neg (p := fun c => !decide (c ∈ ([48, 49, 50, 51, 52, 53, 54, 55, 56, 57] : List Nat))) h]
  exact List.append_nil _
abbrev sLn : Stmt := top 24
theorem scLn : FnScope ["_law_text", "_law_least", "_law_digits", "_law_one"] ["_law_text", "_law_least"] (defScope sLn) := ⟨rfl, rfl, rfl, by decide +kernel, rfl, by decide +kernel, by decide +kernel⟩
theorem head0 {l : List Nat} {c : Nat} (h : l[0]? = some c) : l.head? = some c := by
  rw [List.head?_eq_getElem?]
  exact h
theorem chr_eq {a b : Nat} : ((⟨#[a]⟩ : Str) = ⟨#[b]⟩) ↔ a = b := ⟨fun h => by injection h with h; injection h with h; injection h, fun h => by rw [h]⟩
theorem ok_lnum {f : Addr} {fd : FuncData} (F : Fun K "_law_is_number" "_law_is_number" sLn f fd) (T : Txt K mg C) : FnOk P w K mg base CX0 1 f fd ["_law_text", "_law_least"] spLNum := by
  refine F.ok scLn (fun vs H Q E h => ?_) (fun cdv A outer s H vs Q E hr h => ?_)
  · obtain ⟨z, s, rfl, _⟩ := h
    rfl
  · obtain ⟨z, s0, rfl, hz, k⟩ := h
    have hl := len_tl z
    refine ⟨_, (pss_cons (ps_set (i := 2) scLn.nd rfl (Or.inl rfl) (pv 0))
 (Evl.pss_cut (ps_if (PW.pt (pw_and (pt_cmpR op_eq (pe_slice sl_str (pv 0) po_none (po_some pe_int)) pe_str (nomark _)) (pw_and1 (pt_cmpR op_lt (pv 1) pe_int (nomark _))))) (pss_one (ps_set (i := 2) scLn.nd rfl (Or.inl rfl) (pe_slice sl_str (pv 0) (po_some pe_int) po_none))) pss_nil)
 (pss_cons (ps_if (PW.pt (pw_or (pt_cmpR op_eq (pv 2) pe_str (nomark _)) (pw_or1 (pt_cmpR op_gt (pe_callB call_len_str rfl T.len PySem.boot_len (pa_cons (pv 2) pa_nil)) pe_int (nomark _))))) (pss_one (ps_ret pe_bl)) pss_nil)
 (pss_cons (ps_if (pt_cmpR (op_neD hr.units) (pe_lc (own := [("_law_one", 3)]) rfl scLn.nd (pi_str (pv 2)) (blkOk_by (N := ["_law_text", "_law_least", "_law_digits", "_law_one"]) (sc := defScope sLn) (by decide +kernel)) (fun _ _ _ _ _ => pg_name (i := 3) scLn.nd rfl (Or.inl rfl)) (fun _ _ _ _ _ => (pts_one (pt_cmpR op_notIn_sign (pv 3) pe_str (by rfl)))) (fun _ _ _ _ _ => (pv 3))) (pe_lst pa_nil) (nomark _)) (pss_one (ps_ret pe_bl)) pss_nil)
 (pss_one (ps_ret (pe_or (pe_cmpR op_ne (pe_ix ix_str (pv 2) pe_int (fun _ _ => rfl)) pe_str (nomark _)) (pe_one (pe_cmpR op_eq (pv 0) pe_str (nomark _)))))))))), ?_⟩
    refine ⟨_, rfl, fun σ H' => ∃ d : Str, σ = [some (.str z), some (.int s0), some (.str d), none] ∧ H = H' ∧ TOk d ∧ tl d = (if s0 < 0 ∧ (tl z).take 1 = [45] then (tl z).drop 1 else tl z), ?_, ?_⟩
    · have c1 : TOk (cutS z (some 1) none) := ⟨Nat.le_trans (cutS_length _ _ _) hz.1, fun c hc => hz.2 c (List.mem_of_mem_drop (List.mem_of_mem_take hc))⟩
      have q1 : decide (V.str (cutS z none (some 1)) = V.str "-") = true ↔ (tl z).take 1 = [45] := by
        rw [decide_eq_true_eq, ← cut_one]
        constructor
        · intro q
          injection q with q
          rw [q]
          rfl
        · intro q
          rw [ext_tl (x := cutS z none (some 1)) (y := "-") q]
      refine ⟨_, rfl, _, rfl, z, rfl, hz.line, rfl, _, rfl, ite2 (fun h1 => ?_) (fun h1 => ?_)⟩
      · refine ⟨_, rfl, _, _, rfl, rfl, _, rfl, ite2 (fun h2 => ?_) (fun h2 => ?_)⟩
        · have h2 : s0 < 0 := of_decide_eq_true h2
          exact ⟨_, rfl, _, rfl, z, rfl, hz.line, _, rfl, rfl, c1, by rw [if_pos ⟨h2, q1.mp h1⟩, cut_tail]⟩
        · have h2 : ¬ s0 < 0 := of_decide_eq_false (Bool.eq_false_iff.mpr h2)
          exact ⟨z, rfl, rfl, hz, by rw [if_neg fun q => h2 q.1]⟩
      · refine iteF ?_
        exact ⟨z, rfl, rfl, hz, by rw [if_neg fun q => h1 (q1.mpr q.2)]⟩
    · rintro σ H' ⟨d, rfl, rfl, hd, ed⟩
      have ld := len_tl d
      have key : LN (decide (s0 < 0)) (tl z) ↔ Nm (tl d) ∧ ((tl d).head? ≠ some 48 ∨ tl z = [48]) := by
        unfold LN
        simp only [decide_eq_true_eq, ← ed]
        constructor
        · rintro ⟨_, rfl, h1, h2⟩
          exact ⟨h1, h2⟩
        · rintro ⟨h1, h2⟩
          exact ⟨_, rfl, h1, h2⟩
      refine ⟨_, rfl, rfl, _, rfl, ite2 (fun h1 => ?_) (fun h1 => ?_)⟩
      · have e0 : tl d = [] := by
          have q := of_decide_eq_true h1
          injection q with q
          rw [q]
          rfl
        refine iteT (k _ _ (Ex.refl _) ⟨fun q => Bool.noConfusion q, fun q => absurd (key.mp q).1.2.1 (fun q => q e0)⟩)
      have e0 : tl d ≠ [] := fun q => h1 (decide_eq_true (by rw [ext_tl (x := d) (y := "") q]))
      refine ⟨_, rfl, d, rfl, hd.line, _, _, rfl, rfl, _, rfl, ite2 (fun h2 => ?_) (fun h2 => ?_)⟩
      · have h2 : (60 : Int) < (d.length : Int) := of_decide_eq_true h2
        exact k _ _ (Ex.refl _) ⟨fun q => Bool.noConfusion q, fun q => absurd (key.mp q).1.1 (by omega)⟩
      have h2 : ¬ (60 : Int) < (d.length : Int) := of_decide_eq_false (Bool.eq_false_iff.mpr h2)
      refine ⟨_, rfl, d, rfl, fun D hD => lc_it (walk_str (z := d)) (fun i H' => Ex H H' ∧ H' D = some (.lst ((odd ((tl d).take i)).map oneV))) ⟨Ex.new hD, upd_same⟩ (fun _ _ _ _ => True.intro) ?_ ?_⟩
      · rintro i x H1 H2 hi ⟨e1, hO⟩ ⟨rfl, c, hc, rfl⟩
        have hc : (tl d)[i]? = some c := by rw [← Array.getElem?_toList] at hc; exact hc
        have htk : (tl d).take (i + 1) = (tl d).take i ++ [c] := by
          rw [List.take_add_one, hc]
          rfl
        refine ⟨rfl, _, rfl, c, ("0123456789" : Str), rfl, rfl, _, rfl, ite2 (fun h3 => ?_) (fun h3 => ?_)⟩
        · refine ⟨_, rfl, _, hO, ?_, Evl.Ex.mut e1 hD, ?_⟩
          · rw [List.length_map, sizeLine_eq]
            have z1 := List.length_filter_le (fun c => !decide (c ∈ ([48, 49, 50, 51, 52, 53, 54, 55, 56, 57] : List Nat))) ((tl d).take i)
            have z2 := List.length_take_le i (tl d)
            have z3 := hd.1
            have z4 : d.cps.size = d.length := rfl
            show (odd _).length < _
            unfold odd
            omega
          · rw [upd_same, htk, odd_yes h3, List.map_append]
            rfl
        · refine ⟨e1, ?_⟩
          rw [hO, htk, odd_no h3]
      · rintro H1 ⟨e1, hO⟩
        have ls : (tl d).take d.cps.size = tl d := List.take_of_length_le (by rw [← ld]; exact Nat.le_refl _)
        rw [ls] at hO
        refine ⟨by show 0 ≤ sizeLine; decide, fun q hq => ?_⟩
        have e2 : Ex H (upd H1 q (.lst [])) := e1.trans (Ex.new hq)
        have hO2 := (Ex.new hq (o := .lst [])) _ _ hO
        have od : ∀ c ∈ odd (tl d), c < 0x110000 := fun c hc => hd.2 c (List.mem_filter.mp hc).1
        refine ⟨_, _, .lst (SqL.of hO2) (dp_ones _), .lst (SqL.of upd_same) .nil, shaped_ones od, shaped_ones (l := []) (fun c hc => nomatch hc), _, rfl, ?_⟩
        rw [eqv_ones]
        refine ite2 (fun h3 => ?_) (fun h3 => ?_)
        · have h3 : odd (tl d) ≠ [] := by
            intro q
            rw [decide_eq_true q] at h3
            cases h3
          exact k _ _ e2 ⟨fun q => Bool.noConfusion q, fun q => absurd (odd_nil.mpr (key.mp q).1.2.2) h3⟩
        · have h3 : odd (tl d) = [] := by
            refine Classical.byContradiction fun q => h3 ?_
            rw [decide_eq_false q]
            rfl
          have nm : Nm (tl d) := ⟨by omega, e0, odd_nil.mp h3⟩
          obtain ⟨c, r, ec⟩ : ∃ c r, tl d = c :: r := by
            cases ec : tl d with
            | nil => exact absurd ec e0
            | cons c r => exact ⟨c, r, rfl⟩
          have hc0 : atI (d.cps.toList) 0 = some c := atI_nat (j := 0) (by show (tl d)[0]? = _; rw [ec]; rfl)
          refine ⟨_, rfl, d, 0, c, rfl, rfl, hd.line, hc0, rfl, _, rfl, ite2 (fun h4 => ?_) (fun h4 => ?_)⟩
          · refine k _ _ e2 ⟨fun _ => key.mpr ⟨nm, .inl fun q => ?_⟩, fun _ => rfl⟩
            rw [ec] at q
            injection q with q
            rw [q] at h4
            exact absurd h4 (by decide +kernel)
          · have c48 : c = 48 := by
              refine Classical.byContradiction fun q => h4 ?_
              rw [decide_eq_false (fun z => q (chr_eq.mp (by injection z)))]
              rfl
            refine ⟨_, rfl, rfl, k _ _ e2 ⟨fun q => key.mpr ⟨nm, .inr ?_⟩, fun q => ?_⟩⟩
            · have q := of_decide_eq_true q
              injection q with q
              rw [q]
              rfl
            · rcases (key.mp q).2 with q | q
              · rw [ec, c48] at q
                exact absurd rfl q
              · exact decide_eq_true (by rw [ext_tl (x := z) (y := "0") q])
abbrev sWr : Stmt := top 25
theorem scWr : FnScope ["_law_text", "_law_place", "_law_bottom"] ["_law_text"] (defScope sWr) := ⟨rfl, rfl, rfl, by decide +kernel, rfl, by decide +kernel, by decide +kernel⟩
theorem ok_written {f : Addr} {fd : FuncData} (F : Fun K "_law_is_written" "_law_is_written" sWr f fd) (T : Txt K mg C) (OG : Ok P w K mg base CX0 1 "_law_gcd" ["_law_a", "_law_b"] spGcd) (ON : Ok P w K mg base CX0 1 "_law_is_number" ["_law_text", "_law_least"] spLNum) : FnOk P w K mg base CX0 2 f fd ["_law_text"] spWrit := by
  obtain ⟨fGc, fdGc, GGc, mGc, kGc, bGc⟩ := OG
  obtain ⟨fLn, fdLn, GLn, mLn, kLn, bLn⟩ := ON
  refine F.ok scWr (fun vs H Q E h => ?_) (fun cdv A outer s H vs Q E hr h => ?_)
  · obtain ⟨z, rfl, _⟩ := h
    rfl
  · obtain ⟨z, rfl, hz, k⟩ := h
    refine ⟨_, (pss_cons (ps_set (i := 1) scWr.nd rfl (Or.inl rfl) (pe_bm PySem.F.plainAttrs_str PySem.F.slot_str_find PySem.F.type_str_find mt_find (pv 0) (pa_cons pe_str pa_nil)))
 (pss_cons (ps_if (pt_cmpR op_lt (pv 1) pe_int (nomark _)) (pss_one (ps_ret (pe_call GLn (hr.mono (by decide)) rfl mLn kLn bLn .nil pass0 (pa_cons (pv 0) (pa_cons (pe_un un_neg pe_int) pa_nil))))) pss_nil)
 (pss_cons (ps_set (i := 2) scWr.nd rfl (Or.inl rfl) (pe_slice sl_str (pv 0) (po_some (pe_op op_add (pv 1) pe_int)) po_none))
 (pss_cons (ps_if (PW.pt (pw_or (pt_not (pt_val (pe_call GLn (hr.mono (by decide)) rfl mLn kLn bLn .nil pass0 (pa_cons (pe_slice sl_str (pv 0) po_none (po_some (pv 1))) (pa_cons (pe_un un_neg pe_int) pa_nil))))) (pw_or1 (pt_not (pt_val (pe_call GLn (hr.mono (by decide)) rfl mLn kLn bLn .nil pass0 (pa_cons (pv 2) (pa_cons pe_int pa_nil)))))))) (pss_one (ps_ret pe_bl)) pss_nil)
 (pss_one (ps_ret (pe_and (pe_cmpR op_gt (pe_callTy call_int_str rfl T.int PyProof.Rows.boot_int (pa_cons (pv 2) pa_nil)) pe_int (nomark _)) (pe_one (pe_cmpR op_eq (pe_call GGc (hr.mono (by decide)) rfl mGc kGc bGc .nil pass0 (pa_cons (pe_callTy call_int_str rfl T.int PyProof.Rows.boot_int (pa_cons (pe_slice sl_str (pv 0) po_none (po_some (pv 1))) pa_nil)) (pa_cons (pe_callTy call_int_str rfl T.int PyProof.Rows.boot_int (pa_cons (pv 2) pa_nil)) pa_nil))) pe_int (nomark _)))))))))), ?_⟩
    refine ⟨_, rfl, rfl, z, "/", rfl, rfl, ?_⟩
    rcases find47 z with ⟨hs, ep⟩ | ⟨a, b, ez, hs, ep, el⟩
    · rw [ep]
      refine ⟨_, rfl, _, _, rfl, rfl, _, rfl, iteT ?_⟩
      refine ⟨_, rfl, _, rfl, z, -1, rfl, hz, fun k1 H1 e1 h1 => k k1 H1 e1 (h1.trans ?_)⟩
      constructor
      · intro q
        exact .inl ⟨hs, q⟩
      · rintro (q | ⟨x, y, e, _⟩)
        · exact q.2
        · exact absurd (by rw [e]; simp) hs
    · rw [ep]
      have hz' := hz
      rw [ez] at hz'
      obtain ⟨ta, tb⟩ := hz'.parts
      have et : tl z = tl a ++ 47 :: tl b := by
        rw [ez, tl_append, tl_append, List.append_assoc]
        rfl
      have ca : cutS z none (some (a.length : Int)) = a := ext_tl (by rw [cut_to (by omega), et, len_tl a, List.take_left'] <;> rfl)
      have cb : cutS z (some ((a.length : Int) + 1)) none = b := ext_tl (by
        rw [show ((a.length : Int) + 1) = ((a.length + 1 : Nat) : Int) from rfl, cut_from (by omega), et, len_tl a, List.drop_append]
        simp)
      have key : Written (tl z) ↔ LN true (tl a) ∧ LN false (tl b) ∧ 1 < NumText.digitsVal (tl b) ∧ Int.gcd (sval (tl a)) (NumText.digitsVal (tl b) : Int) = 1 := by
        rw [et]
        constructor
        · rintro (⟨q, _⟩ | ⟨x, y, e, hx, l1, l2, h1, h2⟩)
          · exact absurd (by simp) q
          · obtain ⟨e1, e2⟩ := cut_eq e hs hx
            rw [e1, e2]
            exact ⟨l1, l2, h1, h2⟩
        · rintro ⟨l1, l2, h1, h2⟩
          exact .inr ⟨_, _, rfl, hs, l1, l2, h1, h2⟩
      have g0 : ¬ ((a.length : Int) < 0) := by omega
      refine ⟨_, rfl, _, _, rfl, rfl, _, rfl, iteB (decide_eq_false g0) ?_⟩
      refine ⟨_, rfl, _, rfl, _, _, rfl, rfl, _, rfl, z, rfl, hz.line, ?_⟩
      rw [cb]
      refine ⟨_, rfl, _, rfl, _, rfl, z, rfl, hz.line, _, rfl, _, -1, rfl, by rw [ca]; exact ta, fun k1 H1 e1 h1 => ⟨_, rfl, ?_⟩⟩
      rw [ca] at h1
      refine ite2 (fun q1 => iteT ?_) (fun q1 => ?_)
      · exact k _ _ e1 ⟨fun q => Bool.noConfusion q, fun q => by
          have := h1.mpr (key.mp q).1
          rw [this] at q1
          cases q1⟩
      have q1 : k1 = true := by cases k1 <;> first | rfl | exact absurd rfl q1
      refine ⟨_, rfl, b, 0, rfl, tb, fun k2 H2 e2 h2 => ⟨_, rfl, ?_⟩⟩
      refine ite2 (fun q2 => ?_) (fun q2 => ?_)
      · exact k _ _ (e1.trans e2) ⟨fun q => Bool.noConfusion q, fun q => by
          have := h2.mpr (key.mp q).2.1
          rw [this] at q2
          cases q2⟩
      have q2 : k2 = true := by cases k2 <;> first | rfl | exact absurd rfl q2
      have l1 : LN true (tl a) := h1.mp q1
      have l2 : LN false (tl b) := h2.mp q2
      have nb := l2.digits
      have na := l1.bare
      have lb : b.length ≤ 640 := nm_len (by rw [bare_digits nb.2.2]; exact nb)
      refine ⟨_, rfl, _, _, rfl, int_bare nb, lb, _, _, rfl, rfl, _, rfl, ite2 (fun q3 => ?_) (fun q3 => ?_)⟩
      · have q3 : (1 : Int) < ((NumText.digitsVal (tl b) : Nat) : Int) := of_decide_eq_true q3
        refine ⟨_, rfl, _, rfl, _, rfl, z, rfl, hz.line, ?_⟩
        rw [ca]
        have sb : (((NumText.digitsVal (tl b) : Nat) : Int)).natAbs < 10 ^ 60 := val_size nb
        refine ⟨_, _, rfl, int_of na, nm_len na, _, rfl, _, _, rfl, int_bare nb, lb, _, _, rfl, (sm200 (sval_size na)).mono (by decide), (sm200 sb).mono (by decide), rfl, k _ _ (e1.trans e2) ?_⟩
        constructor
        · intro q
          have q := of_decide_eq_true q
          injection q with q
          exact key.mpr ⟨l1, l2, by omega, by omega⟩
        · intro q
          have := (key.mp q).2.2.2
          rw [this]
          rfl
      · have q3 : ¬ (1 : Int) < ((NumText.digitsVal (tl b) : Nat) : Int) := of_decide_eq_false (Bool.eq_false_iff.mpr q3)
        exact k _ _ (e1.trans e2) ⟨fun q => Bool.noConfusion q, fun q => by
          have := (key.mp q).2.2.1
          omega⟩
abbrev sLo : Stmt := top 26
theorem scLo : FnScope ["_law_top", "_law_bottom", "_law_part"] ["_law_top", "_law_bottom"] (defScope sLo) := ⟨rfl, rfl, rfl, by decide +kernel, rfl, by decide +kernel, by decide +kernel⟩
theorem ok_low {f : Addr} {fd : FuncData} (F : Fun K "_law_low" "_law_low" sLo f fd) (T : Txt K mg C) (OG : Ok P w K mg base CX0 1 "_law_gcd" ["_law_a", "_law_b"] spGcd) : FnOk P w K mg base CX0 2 f fd ["_law_top", "_law_bottom"] spLw7 := by
  obtain ⟨fGc, fdGc, GGc, mGc, kGc, bGc⟩ := OG
  refine F.ok scLo (fun vs H Q E h => ?_) (fun cdv A outer s H vs Q E hr h => ?_)
  · obtain ⟨n, d, rfl, _⟩ := h
    rfl
  · obtain ⟨n, d, rfl, hd, sn, sd, k⟩ := h
    have eg : sg n d = ((Int.gcd n d : Nat) : Int) := if_pos hd
    have sN := sg_ne (n := n) (d := d) (by omega)
    have ss : Sm 1000 (sg n d) := sd.le (sg_le (by omega))
    have N := norm_mk (n := n) (d := d) (by omega)
    rw [eg] at sN ss N
    refine ⟨_, (pss_cons (ps_set (i := 2) scLo.nd rfl (Or.inl rfl) (pe_call GGc (hr.mono (by decide)) rfl mGc kGc bGc .nil pass0 (pa_cons (pv 0) (pa_cons (pv 1) pa_nil))))
 (pss_one (ps_ret (pe_tup (pa_cons (pe_op op_fdivNW (pv 0) (pv 2)) (pa_cons (pe_op op_fdivNW (pv 1) (pv 2)) pa_nil)))))), ?_⟩
    refine ⟨_, rfl, _, rfl, n, d, rfl, sn.mono (by decide), sd.mono (by decide), ?_⟩
    refine ⟨_, rfl, _, rfl, _, _, rfl, rfl, ss.cdiv sN, _, rfl, _, rfl, _, _, rfl, rfl, ss.cdiv sN, (by show 2 ≤ sizeLine; decide), fun p hp => ?_⟩
    exact k _ _ p _ (Ex.new hp) upd_same N
abbrev sPn : Stmt := top 27
theorem scPn : FnScope ["_law_pair"] ["_law_pair"] (defScope sPn) := ⟨rfl, rfl, rfl, by decide +kernel, rfl, by decide +kernel, by decide +kernel⟩
theorem ok_printed {CT f fT : Addr} {fd : FuncData} {t1 t2 t3 : Tok} (F : Fun K "_law_printed" "_law_printed" sPn f fd) (T : Txt K mg C) (TT : TxtT K mg CT fT t1 t2 t3) : FnOk P w K mg base CX0 1 f fd ["_law_pair"] spPrn := by
  refine F.ok scPn (fun vs H Q E h => ?_) (fun cdv A outer s H vs Q E hr h => ?_)
  · obtain ⟨p, t, b, rfl, _⟩ := h
    rfl
  · obtain ⟨p, t, b, rfl, hp, hb, st, sb, k⟩ := h
    have nl : ∀ {n : Int}, n.natAbs < 10 ^ 62 → (Str.ofString (toString n)).length ≤ 63 := fun {n} h => by
      rw [len_tl, tl_int]
      have := numL_len (n := n.natAbs) (k := 62) (by decide) h
      unfold numT
      split
      · rw [List.length_cons]
        omega
      · omega
    have lt : t.natAbs.log2 < 1920 := log_of st (by decide +kernel)
    have lb : b.natAbs.log2 < 1920 := log_of sb (by decide +kernel)
    have h1 := nl st
    have h2 := nl sb
    refine ⟨_, (pss_cons (ps_if (pt_cmpR op_eq (pe_ix ix_tup (pv 0) pe_int (fun _ _ => rfl)) pe_int (nomark _)) (pss_one (ps_ret (pe_callTy call_str_int rfl TT.str PyProof.Rows.boot_str (pa_cons (pe_ix ix_tup (pv 0) pe_int (fun _ _ => rfl)) pa_nil)))) pss_nil)
 (pss_one (ps_ret (pe_op op_add_str (pe_op op_add_str (pe_callTy call_str_int rfl TT.str PyProof.Rows.boot_str (pa_cons (pe_ix ix_tup (pv 0) pe_int (fun _ _ => rfl)) pa_nil)) pe_str) (pe_callTy call_str_int rfl TT.str PyProof.Rows.boot_str (pa_cons (pe_ix ix_tup (pv 0) pe_int (fun _ _ => rfl)) pa_nil)))))), ?_⟩
    refine ⟨_, rfl, p, _, _, _, rfl, rfl, SqT.of hp, rfl, rfl, _, rfl, ite2 (fun q => ?_) (fun q => ?_)⟩
    · have q : b = 1 := by
        have q := of_decide_eq_true q
        injection q
      refine ⟨_, rfl, p, _, _, _, rfl, rfl, SqT.of hp, rfl, _, rfl, lt, k _ ?_⟩
      rw [tl_int]
      exact (if_pos q).symm
    · have q : b ≠ 1 := fun z => q (decide_eq_true (by rw [z]))
      refine ⟨_, rfl, p, _, _, _, rfl, rfl, SqT.of hp, rfl, _, rfl, lt, _, _, rfl, rfl, ?_, _, rfl, p, _, _, _, rfl, rfl, SqT.of hp, rfl, _, rfl, lb, _, _, rfl, rfl, ?_, k _ ?_⟩
      · rw [sizeLine_eq]
        show _ + 1 ≤ _
        omega
      · rw [len_tl (_ ++ _), tl_append, List.length_append, ← len_tl, ← len_tl, sizeLine_eq]
        show _ + 1 + _ ≤ _
        omega
      · rw [tl_append, tl_append, tl_int, tl_int, List.append_assoc]
        exact (if_neg q).symm
abbrev sSg : Stmt := top 28
theorem scSg : FnScope ["_law_k", "_law_signs"] ["_law_k"] (defScope sSg) := ⟨rfl, rfl, rfl, by decide +kernel, rfl, by decide +kernel, by decide +kernel⟩
theorem ok_sign {f : Addr} {fd : FuncData} (F : Fun K "_law_sign" "_law_sign" sSg f fd) (T : Txt K mg C) : FnOk P w K mg base CX0 1 f fd ["_law_k"] spSign := by
  refine F.ok scSg (fun vs H Q E h => ?_) (fun cdv A outer s H vs Q E hr h => ?_)
  · obtain ⟨n, rfl, _⟩ := h
    rfl
  · obtain ⟨n, rfl, k⟩ := h
    refine ⟨_, (pss_cons (ps_set (i := 1) scSg.nd rfl (Or.inl rfl) pe_str)
 (pss_cons (ps_set (i := 1) scSg.nd rfl (Or.inl rfl) (pe_op op_add_str (pv 1) pe_str))
 (pss_one (ps_ret (pe_ix ix_str (pv 1) (pe_op op_mod (pv 0) pe_int) (fun _ _ => rfl)))))), ?_⟩
    have q0 := Int.emod_nonneg n (show (96 : Int) ≠ 0 by decide)
    have q1 := Int.emod_lt_of_pos n (show (0 : Int) < 96 by decide)
    obtain ⟨i, hi⟩ : ∃ i : Nat, n % 96 = (i : Int) := ⟨(n % 96).toNat, by omega⟩
    refine ⟨_, rfl, _, _, rfl, rfl, (by decide +kernel), ?_⟩
    generalize hS : ((_ : Str) ++ (_ : Str)) = S
    have l96 : (tl S).length = 96 := by
      rw [← hS]
      decide +kernel
    have h128 : ∀ c ∈ tl S, c < 128 := by
      rw [← hS]
      decide +kernel
    have hlt : i < (tl S).length := by omega
    refine ⟨_, rfl, _, rfl, _, _, rfl, rfl, (by show (0 : Int) < 96; decide), S, _, (tl S)[i], rfl, rfl, (by rw [len_tl, l96]; decide), ?_, k _ ⟨by show 1 ≤ 1; decide, fun c hc => ?_⟩⟩
    · rw [hi]
      exact atI_nat (List.getElem?_eq_getElem hlt)
    · have hc : c = (tl S)[i] := List.mem_singleton.mp hc
      have := h128 _ (List.getElem_mem hlt)
      omega
abbrev sSp : Stmt := top 29
theorem scSp : FnScope ["_law_text", "_law_kind", "_law_place", "_law_k", "_law_at"] ["_law_text", "_law_kind", "_law_place", "_law_k"] (defScope sSp) := ⟨rfl, rfl, rfl, by decide +kernel, rfl, by decide +kernel, by decide +kernel⟩
theorem ok_spoilt {f : Addr} {fd : FuncData} (F : Fun K "_law_spoilt" "_law_spoilt" sSp f fd) (T : Txt K mg C) (OS : Ok P w K mg base CX0 1 "_law_sign" ["_law_k"] spSign) : FnOk P w K mg base CX0 2 f fd ["_law_text", "_law_kind", "_law_place", "_law_k"] spSpoilt := by
  obtain ⟨fSg, fdSg, GSg, mSg, kSg, bSg⟩ := OS
  refine F.ok scSp (fun vs H Q E h => ?_) (fun cdv A outer s H vs Q E hr h => ?_)
  · obtain ⟨z, a, b, c, rfl, _⟩ := h
    rfl
  · obtain ⟨z, a, b, c, rfl, hz, k⟩ := h
    refine ⟨_, (pss_cons (ps_set (i := 4) scSp.nd rfl (Or.inl rfl) (pe_op op_mod (pv 2) (pe_op op_add (pe_callB call_len_str rfl T.len PySem.boot_len (pa_cons (pv 0) pa_nil)) pe_int)))
 (pss_cons (ps_if (pt_cmpR op_eq (pv 1) pe_int (nomark _)) (pss_one (ps_ret (pv 0))) pss_nil)
 (pss_cons (ps_if (pt_cmpR op_eq (pv 1) pe_int (nomark _)) (pss_one (ps_ret (pe_op op_add_str (pe_op op_add_str (pe_slice sl_str (pv 0) po_none (po_some (pv 4))) (pe_call GSg (hr.mono (by decide)) rfl mSg kSg bSg .nil pass0 (pa_cons (pv 3) pa_nil))) (pe_slice sl_str (pv 0) (po_some (pv 4)) po_none)))) pss_nil)
 (pss_cons (ps_if (pt_cmpR op_eq (pv 1) pe_int (nomark _)) (pss_one (ps_ret (pe_op op_add_str (pe_slice sl_str (pv 0) po_none (po_some (pv 4))) (pe_slice sl_str (pv 0) (po_some (pe_op op_add (pv 4) pe_int)) po_none)))) pss_nil)
 (pss_cons (ps_if (pt_cmpR op_eq (pv 1) pe_int (nomark _)) (pss_one (ps_ret (pe_op op_add_str (pe_op op_add_str (pe_slice sl_str (pv 0) po_none (po_some (pv 4))) (pe_call GSg (hr.mono (by decide)) rfl mSg kSg bSg .nil pass0 (pa_cons (pv 3) pa_nil))) (pe_slice sl_str (pv 0) (po_some (pe_op op_add (pv 4) pe_int)) po_none)))) pss_nil)
 (pss_one (ps_ret (pe_op op_add_str (pe_op op_add_str (pe_slice sl_str (pv 0) po_none (po_some (pv 4))) (pe_slice sl_str (pv 0) (po_some (pv 4)) (po_some (pe_op op_add (pv 4) pe_int)))) (pe_slice sl_str (pv 0) (po_some (pv 4)) po_none))))))))), ?_⟩
    refine ⟨_, rfl, _, rfl, z, rfl, hz.line, _, _, rfl, rfl, _, _, rfl, rfl, (by show (0 : Int) < (z.length : Int) + 1; omega), ?_⟩
    have zl := hz.line
    refine ⟨_, rfl, rfl, _, rfl, ite2 (fun _ => ⟨_, rfl, k z hz.ok⟩) (fun _ => ?_)⟩
    refine ⟨_, rfl, rfl, _, rfl, ite2 (fun _ => ?_) (fun _ => ?_)⟩
    · refine ⟨_, rfl, _, rfl, _, rfl, z, rfl, zl, _, rfl, c, rfl, fun g hg => ⟨_, _, rfl, rfl, (hz.cut _ _).catLine hg, _, rfl, _, rfl, _, rfl, z, rfl, zl, _, _, rfl, rfl, ((hz.cut _ _).cat hg).catLine (hz.cut _ _), k _ (((hz.cut _ _).cat hg).cat (hz.cut _ _)).ok⟩⟩
    refine ⟨_, rfl, rfl, _, rfl, ite2 (fun _ => ?_) (fun _ => ?_)⟩
    · exact ⟨_, rfl, _, rfl, _, rfl, z, rfl, zl, _, rfl, _, rfl, _, _, rfl, rfl, _, rfl, z, rfl, zl, _, _, rfl, rfl, (hz.cut _ _).catLine (hz.cut _ _), k _ ((hz.cut _ _).cat (hz.cut _ _)).ok⟩
    refine ⟨_, rfl, rfl, _, rfl, ite2 (fun _ => ?_) (fun _ => ?_)⟩
    · exact ⟨_, rfl, _, rfl, _, rfl, z, rfl, zl, _, rfl, c, rfl, fun g hg => ⟨_, _, rfl, rfl, (hz.cut _ _).catLine hg, _, rfl, _, rfl, _, _, rfl, rfl, _, rfl, z, rfl, zl, _, _, rfl, rfl, ((hz.cut _ _).cat hg).catLine (hz.cut _ _), k _ (((hz.cut _ _).cat hg).cat (hz.cut _ _)).ok⟩⟩
    · exact ⟨_, rfl, _, rfl, _, rfl, z, rfl, zl, _, rfl, _, rfl, _, rfl, _, rfl, _, _, rfl, rfl, _, rfl, z, rfl, zl, _, _, rfl, rfl, (hz.cut _ _).catLine (hz.cut _ _), _, rfl, _, rfl, _, rfl, z, rfl, zl, _, _, rfl, rfl, ((hz.cut _ _).cat (hz.cut _ _)).catLine (hz.cut _ _), k _ (((hz.cut _ _).cat (hz.cut _ _)).cat (hz.cut _ _)).ok⟩
abbrev sNe : Stmt := top 30
theorem scNe : FnScope ["_law_k", "_law_texts"] ["_law_k"] (defScope sNe) := ⟨rfl, rfl, rfl, by decide +kernel, rfl, by decide +kernel, by decide +kernel⟩
def nears : List Str := ["", "-", "/", "-0", "+1", "01", "1/1", "2/4", "1/-2", " 1", "1 ", "1/0", "0/2", "1_0", "1/2/3", "--1", "1/", "/2"]
theorem nears_ok : ∀ z ∈ nears, TOk z := by
  show ∀ z ∈ nears, (z.length ≤ 400 ∧ ∀ c ∈ z.cps.toList, c < 0x110000)
  decide +kernel
theorem ok_near {f : Addr} {fd : FuncData} (F : Fun K "_law_near" "_law_near" sNe f fd) (T : Txt K mg C) : FnOk P w K mg base CX0 1 f fd ["_law_k"] spNear := by
  refine F.ok scNe (fun vs H Q E h => ?_) (fun cdv A outer s H vs Q E hr h => ?_)
  · obtain ⟨n, rfl, _⟩ := h
    rfl
  · obtain ⟨n, rfl, k⟩ := h
    refine ⟨_, (pss_cons (ps_set (i := 1) scNe.nd rfl (Or.inl rfl) (pe_lst (pa_cons pe_str (pa_cons pe_str (pa_cons pe_str (pa_cons pe_str (pa_cons pe_str (pa_cons pe_str (pa_cons pe_str (pa_cons pe_str (pa_cons pe_str (pa_cons pe_str (pa_cons pe_str (pa_cons pe_str pa_nil))))))))))))))
 (pss_cons (ps_set (i := 1) scNe.nd rfl (Or.inl rfl) (pe_op op_cat (pv 1) (pe_lst (pa_cons pe_str (pa_cons pe_str (pa_cons pe_str (pa_cons pe_str (pa_cons pe_str (pa_cons pe_str pa_nil)))))))))
 (pss_one (ps_ret (pe_ix ix_list (pv 1) (pe_op op_mod (pv 0) pe_int) (fun _ _ => rfl)))))), ?_⟩
    have q0 := Int.emod_nonneg n (show (18 : Int) ≠ 0 by decide)
    have q1 := Int.emod_lt_of_pos n (show (0 : Int) < 18 by decide)
    obtain ⟨i, hi⟩ : ∃ i : Nat, n % 18 = (i : Int) := ⟨(n % 18).toNat, by omega⟩
    have hlt : i < nears.length := by
      show i < 18
      omega
    refine ⟨by show 12 ≤ sizeLine; rw [sizeLine_eq]; decide, fun l hl => ?_⟩
    refine ⟨_, rfl, (by show 6 ≤ sizeLine; rw [sizeLine_eq]; decide), fun m hm => ⟨l, m, _, _, rfl, rfl, Ex.new hm _ _ upd_same, upd_same, (by show 18 ≤ sizeLine; rw [sizeLine_eq]; decide), fun p hp => ?_⟩⟩
    refine ⟨_, rfl, _, rfl, _, _, rfl, rfl, (by show (0 : Int) < 18; decide), p, _, _, .str nears[i], rfl, rfl, SqL.of upd_same, ?_, ?_⟩
    · rw [hi]
      show atI (nears.map V.str) (i : Int) = _
      exact atI_nat (by rw [List.getElem?_map, List.getElem?_eq_getElem hlt]; rfl)
    · exact k _ _ ((Ex.new hl).trans ((Ex.new hm).trans (Ex.new hp))) (nears_ok _ (List.getElem_mem hlt))
theorem five {ys : List Int} (h : ys.length = 5) : ∃ a b c d e, ys = [a, b, c, d, e] := match ys, h with | [a, b, c, d, e], _ => ⟨a, b, c, d, e, rfl⟩
theorem big61 : Sm 210 (10 ^ (61 : Int).toNat : Int) := sml (by decide +kernel)
abbrev sLaw : Stmt := top 31
theorem scLaw : FnScope ["_law_script", "_law_row_here", "_law_pair", "_law_text", "_law_actual", "_law_refused", "e", "_law_place"] ["_law_script"] (defScope sLaw) := ⟨rfl, rfl, rfl, by decide +kernel, rfl, by decide +kernel, by decide +kernel⟩
theorem ok_law {CT f fT fS fR pR : Addr} {fd dS dR : FuncData} {mc : Value} {t1 t2 t3 : Tok} (F : Fun K "law" "law" sLaw f fd) (T : Txt K mg C) (TT : TxtT K mg CT fT t1 t2 t3) (TX : XfC K CT) (hex : PySem.W.exmOne K (.ref CT) (.ref CT) = some true)
    (RD : ClX.CRead K C mc) (SR : CSt K C mc "read" pR fR) (GR : FnOk P w K mg base (L2.CX P w) 6 fR dR ["text"] (spRead C CT)) (bR : Binds K dR ["text"] [])
    (aS : PySem.W.findIn K (.ref C) "__str__" = some (some (.ref fS))) (iS : PySem.W.isFn K (.ref fS) = true) (GS : FnOk P w K mg base CX0 2 fS dS ["self"] (spStr C)) (bS : Binds K dS ["self"] [])
    (OI : OkI P w K mg base C CN) (OC : Ok P w K mg base CX0 1 "_law_cell" ["_law_script", "_law_k"] (spCell K)) (OR : Ok P w K mg base CX0 2 "_law_ratio" ["_law_a", "_law_b", "_law_most"] spRatio) (OH : Ok P w K mg base CX0 2 "_law_holds" ["_law_actual", "_law_top", "_law_bottom"] (spHolds C))
    (OO : Ok P w K mg base CX0 1 "_law_row" ["_law_cell_here", "_law_sizes"] (spRow K)) (OL : Ok P w K mg base CX0 2 "_law_low" ["_law_top", "_law_bottom"] spLw7) (OP : Ok P w K mg base CX0 1 "_law_printed" ["_law_pair"] spPrn) (OS : Ok P w K mg base CX0 2 "_law_spoilt" ["_law_text", "_law_kind", "_law_place", "_law_k"] spSpoilt) (ON : Ok P w K mg base CX0 1 "_law_near" ["_law_k"] spNear)
    (OW : Ok P w K mg base CX0 2 "_law_is_written" ["_law_text"] spWrit) : FnOk P w K mg base CX0 8 f fd ["_law_script"] (spLaw K) := by
  obtain ⟨fI, fdI, dsI, GI, MkC, bI, vI1, bI1⟩ := OI
  obtain ⟨fCe, fdCe, GCe, mCe, kCe, bCe⟩ := OC
  obtain ⟨fRa, fdRa, GRa, mRa, kRa, bRa⟩ := OR
  obtain ⟨fHo, fdHo, GHo, mHo, kHo, bHo⟩ := OH
  obtain ⟨fRo, fdRo, GRo, mRo, kRo, bRo⟩ := OO
  obtain ⟨fLo, fdLo, GLo, mLo, kLo, bLo⟩ := OL
  obtain ⟨fPn, fdPn, GPn, mPn, kPn, bPn⟩ := OP
  obtain ⟨fSp, fdSp, GSp, mSp, kSp, bSp⟩ := OS
  obtain ⟨fNe, fdNe, GNe, mNe, kNe, bNe⟩ := ON
  obtain ⟨fWr, fdWr, GWr, mWr, kWr, bWr⟩ := OW
  refine F.ok scLaw (fun vs H Q E h => ?_) (fun cdv A outer s H vs Q E hr h => ?_)
  · obtain ⟨a, ns, rfl, _⟩ := h
    rfl
  · obtain ⟨l, ns, rfl, hS, hlen, hQ⟩ := h
    let X := (cxOf CX0 P w K mg base ["_law_script", "_law_row_here", "_law_pair", "_law_text", "_law_actual", "_law_refused", "e", "_law_place"] "law" (defScope sLaw) f cdv A outer s H E).nox
    have hr0 : Room 2 X.A := hr.mono (by decide)
    have oStr := str_own (X := X) (C := C) (E := E0) aS iS GS (hr.mono (by decide)) bS pass0
    refine ⟨_, (pss_cons (ps_set (i := 1) scLaw.nd rfl (Or.inl rfl) (pe_call GRo (hr.mono (by decide)) rfl mRo kRo bRo .nil pass0 (pa_cons (pe_call GCe (hr.mono (by decide)) rfl mCe kCe bCe .nil pass0 (pa_cons (pv 0) (pa_cons pe_int pa_nil))) (pa_cons (pe_lst (pa_cons pe_int (pa_cons pe_int (pa_cons pe_int (pa_cons pe_int (pa_cons pe_int pa_nil)))))) pa_nil))))
 (pss_cons (ps_set (i := 2) scLaw.nd rfl (Or.inl rfl) (pe_call GRa (hr.mono (by decide)) rfl mRa kRa bRa .nil pass0 (pa_cons (pe_call GCe (hr.mono (by decide)) rfl mCe kCe bCe .nil pass0 (pa_cons (pv 0) (pa_cons pe_int pa_nil))) (pa_cons (pe_call GCe (hr.mono (by decide)) rfl mCe kCe bCe .nil pass0 (pa_cons (pv 0) (pa_cons pe_int pa_nil))) (pa_cons (pe_op op_pow pe_int pe_int) pa_nil)))))
 (Evl.pss_cut (ps_if (pt_cmpR op_lt (pe_ix ix_tup (pv 2) pe_int (fun _ _ => rfl)) pe_int (nomark _)) (pss_one (ps_set (i := 2) scLaw.nd rfl (Or.inl rfl) (pe_tup (pa_cons (pe_un un_neg (pe_ix ix_tup (pv 2) pe_int (fun _ _ => rfl))) (pa_cons (pe_un un_neg (pe_ix ix_tup (pv 2) pe_int (fun _ _ => rfl))) pa_nil))))) pss_nil)
 (pss_cons (ps_set (i := 2) scLaw.nd rfl (Or.inl rfl) (pe_call GLo (hr.mono (by decide)) rfl mLo kLo bLo .nil pass0 (pa_cons (pe_ix ix_tup (pv 2) pe_int (fun _ _ => rfl)) (pa_cons (pe_ix ix_tup (pv 2) pe_int (fun _ _ => rfl)) pa_nil))))
 (pss_cons (ps_set (i := 3) scLaw.nd rfl (Or.inl rfl) (pe_call GPn (hr.mono (by decide)) rfl mPn kPn bPn .nil pass0 (pa_cons (pv 2) pa_nil)))
 (pss_cons (ps_if (pt_cmpR op_ne (pe_callTy oStr rfl TT.str PyProof.Rows.boot_str (pa_cons (pe_make MkC GI (hr.mono (by decide)) rfl T.mgC bI .nil passL (pa_cons (pe_ix ix_tup (pv 2) pe_int (fun _ _ => rfl)) (pa_cons (pe_ix ix_tup (pv 2) pe_int (fun _ _ => rfl)) pa_nil))) pa_nil)) (pv 3) (nomark _)) (pss_one (ps_ret pe_bl)) pss_nil)
 (pss_cons (ps_set (i := 3) scLaw.nd rfl (Or.inl rfl) (pe_call GSp (hr.mono (by decide)) rfl mSp kSp bSp .nil pass0 (pa_cons (pv 3) (pa_cons (pe_ix ix_list (pv 1) pe_int (fun _ _ => rfl)) (pa_cons (pe_ix ix_list (pv 1) pe_int (fun _ _ => rfl)) (pa_cons (pe_ix ix_list (pv 1) pe_int (fun _ _ => rfl)) pa_nil))))))
 (Evl.pss_cut (ps_if (pt_cmpR op_eq (pe_ix ix_list (pv 1) pe_int (fun _ _ => rfl)) pe_int (nomark _)) (pss_one (ps_set (i := 3) scLaw.nd rfl (Or.inl rfl) (pe_call GNe (hr.mono (by decide)) rfl mNe kNe bNe .nil pass0 (pa_cons (pe_ix ix_list (pv 1) pe_int (fun _ _ => rfl)) pa_nil)))) pss_nil)
 (pss_cons (ps_set (i := 4) scLaw.nd rfl (Or.inl rfl) pe_non)
 (pss_cons (ps_set (i := 5) scLaw.nd rfl (Or.inl rfl) pe_non)
 (pss_cons (ps_try_as (i := 6) (tb := fun W => tAsg (tSt C (spRead C CT) [] (WE W) (tC (.ref C)) (tCons (tVar 3) tNil)) (gName 4)) (ts := fun a cls d => tAsg (tLst (tCons (tXf a cls d CT "text" (tVar 6)) tNil)) (gName 5)) (Wout := fun _ _ _ _ => False) rfl rfl scLaw.nd rfl rfl ⟨rfl, by decide, Or.inl TT.mgT⟩ takes0 (fun W pn xe tk _ => pss_one (ps_set (i := 4) scLaw.nd rfl (Or.inl rfl) (by exact (pe_smS (pe_glob (v := .ref C) rfl T.mgC rfl) RD SR GR (hr.mono (by decide)) bR .nil (fun σ => passAt tk σ) (by exact (pa_cons (pv 3) pa_nil)))))) (fun a oe cls d pn hz hf => pss_one (ps_set (i := 5) scLaw.nd rfl (Or.inl rfl) (by exact (pe_lst (pa_cons (pe_xf TX TT.nX hz hf (pv 6)) pa_nil))))))
 (pss_cons (ps_if (pt_not (pt_val (pe_call GWr (hr.mono (by decide)) rfl mWr kWr bWr .nil pass0 (pa_cons (pv 3) pa_nil)))) (pss_one (ps_ret (pe_cmpR (op_eqL hr0) (pv 5) (pe_lst (pa_cons (pv 3) pa_nil)) (nomark _)))) pss_nil)
 (pss_cons (ps_if (pt_cmpR op_notN (pv 5) pe_non (nomark _)) (pss_one (ps_ret pe_bl)) pss_nil)
 (pss_cons (ps_set (i := 7) scLaw.nd rfl (Or.inl rfl) (pe_bm PySem.F.plainAttrs_str PySem.F.slot_str_find PySem.F.type_str_find mt_find (pv 3) (pa_cons pe_str pa_nil)))
 (pss_cons (ps_if (pt_cmpR op_lt (pv 7) pe_int (nomark _)) (pss_one (ps_ret (pe_call GHo (hr.mono (by decide)) rfl mHo kHo bHo .nil pass0 (pa_cons (pv 4) (pa_cons (pe_callTy call_int_str rfl T.int PyProof.Rows.boot_int (pa_cons (pv 3) pa_nil)) (pa_cons pe_int pa_nil)))))) pss_nil)
 (pss_one (ps_ret (pe_call GHo (hr.mono (by decide)) rfl mHo kHo bHo .nil pass0 (pa_cons (pv 4) (pa_cons (pe_callTy call_int_str rfl T.int PyProof.Rows.boot_int (pa_cons (pe_slice sl_str (pv 3) po_none (po_some (pv 7))) pa_nil)) (pa_cons (pe_callTy call_int_str rfl T.int PyProof.Rows.boot_int (pa_cons (pe_slice sl_str (pv 3) (po_some (pe_op op_add (pv 7) pe_int)) po_none) pa_nil)) pa_nil))))))))))))))))))))), ?_⟩
    refine ⟨_, rfl, l, ns, 2, rfl, hS, by decide, hlen, fun z2 => ⟨(by show 5 ≤ sizeLine; rw [sizeLine_eq]; decide), fun q hq => ⟨z2, q, [5, 130, 96, 6, 18], rfl, SqL.of upd_same, by decide, by decide +kernel, fun p ys H1 e1 hrow len hb => ?_⟩⟩⟩
    obtain ⟨r0, r1, r2, r3, r4, rfl⟩ := five len
    have hS := (hS.ex' (Ex.new hq)).ex' e1
    have m61 : (0 : Int) < 10 ^ (61 : Int).toNat := by decide
    refine ⟨_, rfl, l, ns, 0, rfl, hS, by decide, hlen, fun z0 => ⟨_, rfl, l, ns, 1, rfl, hS, by decide, hlen, fun z1 => ⟨_, _, rfl, rfl, ⟨by decide, by decide, by decide⟩, z0, z1, (10 ^ (61 : Int).toNat : Int), rfl, m61, big61.mono (by decide), fun n d pp H2 e2 hp l1 l2 l3 l4 dne => ?_⟩⟩⟩
    have hrow := e2 _ _ hrow
    refine ⟨fun σ H' => ∃ (pp : Addr) (n d : Int), σ = [some (.ref l), some (.ref p), some (.ref pp), none, none, none, none, none] ∧ Ex H2 H' ∧ H' pp = some (.tup [.int n, .int d]) ∧ 0 < d ∧ n.natAbs ≤ 10 ^ 61 ∧ d.natAbs ≤ 10 ^ 61, ?_, ?_⟩
    · have ha : n.natAbs ≤ 10 ^ 61 ∧ d.natAbs ≤ 10 ^ 61 := by
        have e : (10 : Int) ^ (61 : Int).toNat = 10 ^ 61 := rfl
        rw [e] at l1 l2 l3 l4
        constructor <;> omega
      refine ⟨_, rfl, pp, _, _, _, rfl, rfl, SqT.of hp, rfl, _, _, rfl, rfl, _, rfl, ite2 (fun h1 => ?_) (fun h1 => ?_)⟩
      · have h1 : d < 0 := of_decide_eq_true h1
        refine ⟨_, rfl, pp, _, _, _, rfl, rfl, SqT.of hp, rfl, _, rfl, _, rfl, pp, _, _, _, rfl, rfl, SqT.of hp, rfl, _, rfl, (by show 2 ≤ sizeLine; rw [sizeLine_eq]; decide), fun p2 hp2 => ?_⟩
        exact ⟨p2, -n, -d, rfl, Ex.new hp2, upd_same, by omega, by omega, by omega⟩
      · have h1 : ¬ d < 0 := of_decide_eq_false (Bool.eq_false_iff.mpr h1)
        exact ⟨pp, n, d, rfl, Ex.refl _, hp, by omega, ha.1, ha.2⟩
    clear hp dne l1 l2 l3 l4
    rintro σ H3 ⟨pp, n, d, rfl, e3, hp, hd, hn, hdd⟩
    have hrow := e3 _ _ hrow
    have q61 : ∀ {n : Int}, n.natAbs ≤ 10 ^ 61 → n.natAbs < 10 ^ 62 := fun h => Nat.lt_of_le_of_lt h (by decide +kernel)
    have q120 : ∀ {n : Int}, n.natAbs < 10 ^ 62 → n.natAbs < 10 ^ 120 := fun h => Nat.lt_trans h (by decide +kernel)
    have s61 : ∀ {n : Int}, n.natAbs < 10 ^ 62 → Sm 1000 n := fun h => Nat.lt_trans h (by decide +kernel)
    refine ⟨_, rfl, pp, _, _, _, rfl, rfl, SqT.of hp, rfl, _, rfl, pp, _, _, _, rfl, rfl, SqT.of hp, rfl, n, d, rfl, hd, s61 (q61 hn), s61 (q61 hdd), fun t b p4 H4 e4 hp4 N => ?_⟩
    have hrow := e4 _ _ hrow
    have st : t.natAbs < 10 ^ 62 := Nat.lt_of_le_of_lt N.tle (q61 hn)
    have sb : b.natAbs < 10 ^ 62 := Nat.lt_of_le_of_lt N.ble (q61 hdd)
    refine ⟨_, rfl, p4, t, b, rfl, hp4, N.pos, st, sb, fun z hz => ?_⟩
    refine ⟨_, rfl, p4, _, _, _, rfl, rfl, SqT.of hp4, rfl, _, rfl, p4, _, _, _, rfl, rfl, SqT.of hp4, rfl, fun x dx i1 i2 i3 => ⟨x, dx, t, b, rfl, upd_same, (s61 st).mono (by decide), (s61 sb).mono (by decide), fun q => absurd q (by have := N.pos; omega), fun _ t' b' N2 => ⟨rfl, ?_⟩⟩⟩
    obtain ⟨e5, ma⟩ := made_ok (C := C) t' b' i1 i2 i3
    obtain ⟨rfl, rfl⟩ := (norm_same N2 N.pos).mpr N.gcd
    have hrow := e5 _ _ hrow
    have hp5 := e5 _ _ hp4
    refine ⟨_, rfl, ma.isC, _, t', b', rfl, ma, q120 st, q120 sb, fun z2 H5 e6 hz2 => ⟨z2, rfl, _, rfl, rfl, _, rfl, ?_⟩⟩
    obtain rfl : z2 = z := ext_tl (by rw [hz2, hz])
    have hrow := e6 _ _ hrow
    have hp6 := e6 _ _ hp5
    refine iteB (by rw [decide_eq_true rfl]; rfl) ?_
    have zT : TB 130 z2 := by
      have k1 : ∀ {n : Int}, n.natAbs < 10 ^ 62 → (numT n).length ≤ 63 := fun {n} h => by
        have := numL_len (n := n.natAbs) (k := 62) (by decide) h
        unfold numT
        split
        · rw [List.length_cons]
          omega
        · omega
      have k2 : ∀ (n : Int), ∀ c ∈ numT n, c < 0x110000 := fun n c hc => by
        unfold numT at hc
        have k3 : ∀ c ∈ numL n.natAbs, c < 0x110000 := fun c hc => by
          have := numL_digits _ c hc
          omega
        split at hc
        · rcases List.mem_cons.mp hc with hc | hc
          · omega
          · exact k3 c hc
        · exact k3 c hc
      have h1 := k1 st
      have h2 := k1 sb
      unfold TB
      rw [len_tl, hz]
      unfold strM
      split
      · exact ⟨by omega, k2 _⟩
      · refine ⟨by rw [List.length_append, List.length_cons]; omega, fun c hc => ?_⟩
        rcases List.mem_append.mp hc with hc | hc
        · exact k2 _ c hc
        · rcases List.mem_cons.mp hc with hc | hc
          · omega
          · exact k2 _ c hc
    refine ⟨_, rfl, _, rfl, p, _, _, _, rfl, rfl, SqL.of hrow, rfl, _, rfl, p, _, _, _, rfl, rfl, SqL.of hrow, rfl, _, rfl, p, _, _, _, rfl, rfl, SqL.of hrow, rfl, z2, r0, r1, r2, rfl, zT, fun z3 h3 => ?_⟩
    refine ⟨fun σ H' => ∃ z : Str, σ = [some (.ref l), some (.ref p), some (.ref p4), some (.str z), none, none, none, none] ∧ TOk z, ?_, ?_⟩
    · refine ⟨_, rfl, p, _, _, _, rfl, rfl, SqL.of hrow, rfl, rfl, _, rfl, ite2 (fun _ => ?_) (fun _ => ⟨z3, rfl, h3⟩)⟩
      exact ⟨_, rfl, p, _, _, _, rfl, rfl, SqL.of hrow, rfl, r4, rfl, fun z4 H6 e7 h4 => ⟨z4, rfl, h4⟩⟩
    clear hrow hp hp4 hp5 hp6 hz hz2 zT h3 hS ma i1 i2 i3 hb
    rintro σ H7 ⟨z, rfl, hz⟩
    have hz' := hz.line
    by_cases W : Written (tl z)
    · refine ⟨rfl, _, rfl, z, rfl, hz, fun _ t b n d v H8 e8 mv rd fr he st sb => ?_, fun q => absurd W q⟩
      refine ⟨_, rfl, z, rfl, hz, fun k1 H9 e9 h9 => ⟨_, rfl, ?_⟩⟩
      obtain rfl : k1 = true := h9.mpr W
      have mv := mv.ex e9
      refine iteF ?_
      refine ⟨_, rfl, rfl, _, rfl, iteF ?_⟩
      refine ⟨_, rfl, rfl, z, "/", rfl, rfl, ?_⟩
      rcases find47 z with ⟨hs, ep⟩ | ⟨a, c, ez, hs, ep, el⟩
      · rw [ep]
        have hn : Nm (bare (tl z)) := by
          rcases W with q | ⟨x, y, e, _⟩
          · exact q.2.bare
          · exact absurd (by rw [e]; simp) hs
        obtain ⟨rfl, rfl⟩ : n = sval (tl z) ∧ d = 1 := by
          rcases fr with q | ⟨x, y, e, _⟩
          · exact q.2
          · exact absurd (by rw [e]; simp) hs
        refine ⟨_, rfl, _, _, rfl, rfl, _, rfl, iteT ?_⟩
        exact ⟨_, rfl, _, rfl, _, _, rfl, int_of hn, nm_len hn, v, t, b, _, 1, rfl, mv, rd, he, st.mono (by decide), sb.mono (by decide), (sm200 (sval_size hn)).mono (by decide), (sml (n := 1) (k := 2) (by decide)).mono (by decide), fun H e => hQ H⟩
      · rw [ep]
        have et : tl z = tl a ++ 47 :: tl c := by
          rw [ez, tl_append, tl_append, List.append_assoc]
          rfl
        have ca : cutS z none (some (a.length : Int)) = a := ext_tl (by rw [cut_to (by omega), et, len_tl a, List.take_left'] <;> rfl)
        have cb : cutS z (some ((a.length : Int) + 1)) none = c := ext_tl (by
          rw [show ((a.length : Int) + 1) = ((a.length + 1 : Nat) : Int) from rfl, cut_from (by omega), et, len_tl a, List.drop_append]
          simp)
        obtain ⟨na, nc⟩ : Nm (bare (tl a)) ∧ Nm (tl c) := by
          rcases W with ⟨q, _⟩ | ⟨x, y, e, hx, q1, q2, _⟩
          · exact absurd (by rw [et]; simp) q
          · obtain ⟨f1, f2⟩ := cut_eq (e.symm.trans et) hx hs
            rw [← f1, ← f2]
            exact ⟨q1.bare, q2.digits⟩
        obtain ⟨rfl, rfl⟩ : n = sval (tl a) ∧ d = ((NumText.digitsVal (tl c) : Nat) : Int) := by
          rcases fr with ⟨q, _⟩ | ⟨x, y, e, hx, q1, q2⟩
          · exact absurd (by rw [et]; simp) q
          · obtain ⟨f1, f2⟩ := cut_eq (e.symm.trans et) hx hs
            rw [← f1, ← f2]
            exact ⟨q1, q2⟩
        have lc : c.length ≤ 640 := nm_len (by rw [bare_digits nc.2.2]; exact nc)
        have sc : (((NumText.digitsVal (tl c) : Nat) : Int)).natAbs < 10 ^ 60 := val_size nc
        have g0 : ¬ ((a.length : Int) < 0) := by omega
        refine ⟨_, rfl, _, _, rfl, rfl, _, rfl, iteB (decide_eq_false g0) ?_⟩
        refine ⟨_, rfl, _, rfl, _, rfl, _, rfl, z, rfl, hz', ?_⟩
        rw [ca]
        refine ⟨_, _, rfl, int_of na, nm_len na, _, rfl, _, rfl, _, _, rfl, rfl, _, rfl, z, rfl, hz', ?_⟩
        rw [cb]
        refine ⟨_, _, rfl, int_bare nc, lc, ?_⟩
        exact ⟨v, t, b, _, _, rfl, mv, rd, he, st.mono (by decide), sb.mono (by decide), (sm200 (sval_size na)).mono (by decide), (sm200 sc).mono (by decide), fun H e => hQ H⟩
    · refine ⟨rfl, _, rfl, z, rfl, hz, fun q => absurd q W, fun _ dd fs H8 lk hd e8 => ⟨true, hex, fun _ a0 ha0 => ?_, fun q => Bool.noConfusion q⟩⟩
      refine ⟨_, rfl, rfl, rfl, dd, fs, _, rfl, hd, lk, (by show 1 ≤ sizeLine; rw [sizeLine_eq]; decide), fun q hq => ?_⟩
      refine ⟨_, rfl, z, rfl, hz, fun k1 H9 e9 h9 => ⟨_, rfl, ?_⟩⟩
      obtain rfl : k1 = false := Bool.eq_false_iff.mpr fun q => W (h9.mp q)
      refine iteT ?_
      have q9 := e9 _ _ (upd_same (a := q))
      refine ⟨_, rfl, _, rfl, (by show 1 ≤ sizeLine; rw [sizeLine_eq]; decide), fun q2 hq2 => ⟨⟨q, q2, [.str z], [.str z], rfl, rfl, (Ex.new hq2 _ _ q9), upd_same, prs_flat (fun x hx => by rw [List.mem_singleton.mp hx]; exact ⟨rfl, by simp [eqV]⟩)⟩, fun H' e => hQ H'⟩⟩
end
end Mo
namespace Mo
open PySem L2
theorem all_mk {P : Program} {w : World} {K : PySem.W.Frag} {h : Heap} {mg : Str → Option Value} {fa : Addr} (X : K.In h) (G : h.Ns mainGlobals mg) (hfa : mg "law" = some (.ref fa))
    {C CN CA NN TD CK NNK pR : Addr} {rstR : List Value} {t1 t2 t3 : Tok} {nmK qK : Str} {bsK : List Value} {snK : List Str} {subK : List Value} {abK : Bool} {colK : Option Bool} {ddK : Option Addr} {k0 k1 k2 k3 k5 : Option Value} {dTD : Option Addr} {slTD : Array (Option Value)} {nTD : Nat} {tkTD : Tok} {ocTD : Value} {nmN qN : Str} {bsN : List Value} {snN : List Str} {subN : List Value} {abN : Bool} {colN : Option Bool} {ddN : Option Addr} {m0 m1 m2 m3 m5 : Option Value}
    {fKp fCe fWh fRa fGc fIi fHo fRo fIn2 fDc fLn fWr fLo fPn fSg fSp fNe fLaw fNM fNT fIn fSt fRd : Addr} {odKp anKp odCe anCe odWh anWh odRa anRa odGc anGc odIi anIi odHo anHo odRo anRo odIn2 anIn2 odDc anDc odLn anLn odWr anWr odLo anLo odPn anPn odSg anSg odSp anSp odNe anNe odLaw anLaw odNM anNM odNT anNT odIn anIn odSt anSt odRd anRd : Option Addr} {slKp slCe slWh slRa slGc slIi slHo slRo slIn2 slDc slLn slWr slLo slPn slSg slSp slNe slLaw slNM slNT slIn slSt slRd : Array (Option Value)} {ocKp kVKp dcKp pmKp cdKp ctKp ocCe kVCe dcCe pmCe cdCe ctCe ocWh kVWh dcWh pmWh cdWh ctWh ocRa kVRa dcRa pmRa cdRa ctRa ocGc kVGc dcGc pmGc cdGc ctGc ocIi kVIi dcIi pmIi cdIi ctIi ocHo kVHo dcHo pmHo cdHo ctHo ocRo kVRo dcRo pmRo cdRo ctRo ocIn2 kVIn2 dcIn2 pmIn2 cdIn2 ctIn2 ocDc kVDc dcDc pmDc cdDc ctDc ocLn kVLn dcLn pmLn cdLn ctLn ocWr kVWr dcWr pmWr cdWr ctWr ocLo kVLo dcLo pmLo cdLo ctLo ocPn kVPn dcPn pmPn cdPn ctPn ocSg kVSg dcSg pmSg cdSg ctSg ocSp kVSp dcSp pmSp cdSp ctSp ocNe kVNe dcNe pmNe cdNe ctNe ocLaw kVLaw dcLaw pmLaw cdLaw ctLaw ocNM kVNM dcNM pmNM cdNM ctNM ocNT kVNT dcNT pmNT cdNT ctNT ocIn kVIn dcIn pmIn cdIn ctIn ocSt kVSt dcSt pmSt cdSt ctSt ocRd kVRd dcRd pmRd cdRd ctRd : Value}
    (aC : PySem.W.nsIn K mainGlobals "Moment" = some (some (.ref C)))
    (aN : PySem.W.nsIn K mainGlobals "NoMoment" = some (some (.ref CN)))
    (aK : PySem.W.nsIn K mainGlobals "NoText" = some (some (.ref CK)))
    (aKp : PySem.W.nsIn K mainGlobals "_kept" = some (some (.ref fKp)))
    (lKp : K.lookup fKp = some ⟨ocKp, odKp, .func (PySem.W.fnOf "_kept" "_kept" (defArgs sKp) (defBody sKp) (defScope sKp) .none kVKp dcKp pmKp anKp cdKp ctKp), slKp⟩)
    (cKp : PySem.W.codeIn K cdKp "_kept" = true)
    (kKp : PySem.W.keepIn K (.ref fKp) = true)
    (aCe : PySem.W.nsIn K mainGlobals "_law_cell" = some (some (.ref fCe)))
    (lCe : K.lookup fCe = some ⟨ocCe, odCe, .func (PySem.W.fnOf "_law_cell" "_law_cell" (defArgs sCe) (defBody sCe) (defScope sCe) .none kVCe dcCe pmCe anCe cdCe ctCe), slCe⟩)
    (cCe : PySem.W.codeIn K cdCe "_law_cell" = true)
    (kCe : PySem.W.keepIn K (.ref fCe) = true)
    (aWh : PySem.W.nsIn K mainGlobals "_law_whole" = some (some (.ref fWh)))
    (lWh : K.lookup fWh = some ⟨ocWh, odWh, .func (PySem.W.fnOf "_law_whole" "_law_whole" (defArgs sWh) (defBody sWh) (defScope sWh) .none kVWh dcWh pmWh anWh cdWh ctWh), slWh⟩)
    (cWh : PySem.W.codeIn K cdWh "_law_whole" = true)
    (kWh : PySem.W.keepIn K (.ref fWh) = true)
    (aRa : PySem.W.nsIn K mainGlobals "_law_ratio" = some (some (.ref fRa)))
    (lRa : K.lookup fRa = some ⟨ocRa, odRa, .func (PySem.W.fnOf "_law_ratio" "_law_ratio" (defArgs sRa) (defBody sRa) (defScope sRa) .none kVRa dcRa pmRa anRa cdRa ctRa), slRa⟩)
    (cRa : PySem.W.codeIn K cdRa "_law_ratio" = true)
    (kRa : PySem.W.keepIn K (.ref fRa) = true)
    (aGc : PySem.W.nsIn K mainGlobals "_law_gcd" = some (some (.ref fGc)))
    (lGc : K.lookup fGc = some ⟨ocGc, odGc, .func (PySem.W.fnOf "_law_gcd" "_law_gcd" (defArgs sGc) (defBody sGc) (defScope sGc) .none kVGc dcGc pmGc anGc cdGc ctGc), slGc⟩)
    (cGc : PySem.W.codeIn K cdGc "_law_gcd" = true)
    (kGc : PySem.W.keepIn K (.ref fGc) = true)
    (aIi : PySem.W.nsIn K mainGlobals "_law_is_int" = some (some (.ref fIi)))
    (lIi : K.lookup fIi = some ⟨ocIi, odIi, .func (PySem.W.fnOf "_law_is_int" "_law_is_int" (defArgs sIi) (defBody sIi) (defScope sIi) .none kVIi dcIi pmIi anIi cdIi ctIi), slIi⟩)
    (cIi : PySem.W.codeIn K cdIi "_law_is_int" = true)
    (kIi : PySem.W.keepIn K (.ref fIi) = true)
    (aHo : PySem.W.nsIn K mainGlobals "_law_holds" = some (some (.ref fHo)))
    (lHo : K.lookup fHo = some ⟨ocHo, odHo, .func (PySem.W.fnOf "_law_holds" "_law_holds" (defArgs sHo) (defBody sHo) (defScope sHo) .none kVHo dcHo pmHo anHo cdHo ctHo), slHo⟩)
    (cHo : PySem.W.codeIn K cdHo "_law_holds" = true)
    (kHo : PySem.W.keepIn K (.ref fHo) = true)
    (aRo : PySem.W.nsIn K mainGlobals "_law_row" = some (some (.ref fRo)))
    (lRo : K.lookup fRo = some ⟨ocRo, odRo, .func (PySem.W.fnOf "_law_row" "_law_row" (defArgs sRo) (defBody sRo) (defScope sRo) .none kVRo dcRo pmRo anRo cdRo ctRo), slRo⟩)
    (cRo : PySem.W.codeIn K cdRo "_law_row" = true)
    (kRo : PySem.W.keepIn K (.ref fRo) = true)
    (aIn2 : PySem.W.nsIn K mainGlobals "_is_number" = some (some (.ref fIn2)))
    (lIn2 : K.lookup fIn2 = some ⟨ocIn2, odIn2, .func (PySem.W.fnOf "_is_number" "_is_number" (defArgs sIn2) (defBody sIn2) (defScope sIn2) .none kVIn2 dcIn2 pmIn2 anIn2 cdIn2 ctIn2), slIn2⟩)
    (cIn2 : PySem.W.codeIn K cdIn2 "_is_number" = true)
    (kIn2 : PySem.W.keepIn K (.ref fIn2) = true)
    (aDc : PySem.W.nsIn K mainGlobals "_decimal" = some (some (.ref fDc)))
    (lDc : K.lookup fDc = some ⟨ocDc, odDc, .func (PySem.W.fnOf "_decimal" "_decimal" (defArgs sDc) (defBody sDc) (defScope sDc) .none kVDc dcDc pmDc anDc cdDc ctDc), slDc⟩)
    (cDc : PySem.W.codeIn K cdDc "_decimal" = true)
    (kDc : PySem.W.keepIn K (.ref fDc) = true)
    (aLn : PySem.W.nsIn K mainGlobals "_law_is_number" = some (some (.ref fLn)))
    (lLn : K.lookup fLn = some ⟨ocLn, odLn, .func (PySem.W.fnOf "_law_is_number" "_law_is_number" (defArgs sLn) (defBody sLn) (defScope sLn) .none kVLn dcLn pmLn anLn cdLn ctLn), slLn⟩)
    (cLn : PySem.W.codeIn K cdLn "_law_is_number" = true)
    (kLn : PySem.W.keepIn K (.ref fLn) = true)
    (aWr : PySem.W.nsIn K mainGlobals "_law_is_written" = some (some (.ref fWr)))
    (lWr : K.lookup fWr = some ⟨ocWr, odWr, .func (PySem.W.fnOf "_law_is_written" "_law_is_written" (defArgs sWr) (defBody sWr) (defScope sWr) .none kVWr dcWr pmWr anWr cdWr ctWr), slWr⟩)
    (cWr : PySem.W.codeIn K cdWr "_law_is_written" = true)
    (kWr : PySem.W.keepIn K (.ref fWr) = true)
    (aLo : PySem.W.nsIn K mainGlobals "_law_low" = some (some (.ref fLo)))
    (lLo : K.lookup fLo = some ⟨ocLo, odLo, .func (PySem.W.fnOf "_law_low" "_law_low" (defArgs sLo) (defBody sLo) (defScope sLo) .none kVLo dcLo pmLo anLo cdLo ctLo), slLo⟩)
    (cLo : PySem.W.codeIn K cdLo "_law_low" = true)
    (kLo : PySem.W.keepIn K (.ref fLo) = true)
    (aPn : PySem.W.nsIn K mainGlobals "_law_printed" = some (some (.ref fPn)))
    (lPn : K.lookup fPn = some ⟨ocPn, odPn, .func (PySem.W.fnOf "_law_printed" "_law_printed" (defArgs sPn) (defBody sPn) (defScope sPn) .none kVPn dcPn pmPn anPn cdPn ctPn), slPn⟩)
    (cPn : PySem.W.codeIn K cdPn "_law_printed" = true)
    (kPn : PySem.W.keepIn K (.ref fPn) = true)
    (aSg : PySem.W.nsIn K mainGlobals "_law_sign" = some (some (.ref fSg)))
    (lSg : K.lookup fSg = some ⟨ocSg, odSg, .func (PySem.W.fnOf "_law_sign" "_law_sign" (defArgs sSg) (defBody sSg) (defScope sSg) .none kVSg dcSg pmSg anSg cdSg ctSg), slSg⟩)
    (cSg : PySem.W.codeIn K cdSg "_law_sign" = true)
    (kSg : PySem.W.keepIn K (.ref fSg) = true)
    (aSp : PySem.W.nsIn K mainGlobals "_law_spoilt" = some (some (.ref fSp)))
    (lSp : K.lookup fSp = some ⟨ocSp, odSp, .func (PySem.W.fnOf "_law_spoilt" "_law_spoilt" (defArgs sSp) (defBody sSp) (defScope sSp) .none kVSp dcSp pmSp anSp cdSp ctSp), slSp⟩)
    (cSp : PySem.W.codeIn K cdSp "_law_spoilt" = true)
    (kSp : PySem.W.keepIn K (.ref fSp) = true)
    (aNe : PySem.W.nsIn K mainGlobals "_law_near" = some (some (.ref fNe)))
    (lNe : K.lookup fNe = some ⟨ocNe, odNe, .func (PySem.W.fnOf "_law_near" "_law_near" (defArgs sNe) (defBody sNe) (defScope sNe) .none kVNe dcNe pmNe anNe cdNe ctNe), slNe⟩)
    (cNe : PySem.W.codeIn K cdNe "_law_near" = true)
    (kNe : PySem.W.keepIn K (.ref fNe) = true)
    (aLaw : PySem.W.nsIn K mainGlobals "law" = some (some (.ref fLaw)))
    (lLaw : K.lookup fLaw = some ⟨ocLaw, odLaw, .func (PySem.W.fnOf "law" "law" (defArgs sLaw) (defBody sLaw) (defScope sLaw) .none kVLaw dcLaw pmLaw anLaw cdLaw ctLaw), slLaw⟩)
    (cLaw : PySem.W.codeIn K cdLaw "law" = true)
    (kLaw : PySem.W.keepIn K (.ref fLaw) = true)
    (aNM : PySem.W.findIn K (.ref CN) "__init__" = some (some (.ref fNM)))
    (lNM : K.lookup fNM = some ⟨ocNM, odNM, .func (PySem.W.fnOf "__init__" "NoMoment.__init__" (defArgs sNM) (defBody sNM) (defScope sNM) .none kVNM dcNM pmNM anNM cdNM ctNM), slNM⟩)
    (cNM : PySem.W.codeIn K cdNM "NoMoment.__init__" = true)
    (kNM : PySem.W.keepIn K (.ref fNM) = true)
    (iNM : PySem.W.isFn K (.ref fNM) = true)
    (aNT : PySem.W.findIn K (.ref CK) "__init__" = some (some (.ref fNT)))
    (lNT : K.lookup fNT = some ⟨ocNT, odNT, .func (PySem.W.fnOf "__init__" "NoText.__init__" (defArgs sNT) (defBody sNT) (defScope sNT) .none kVNT dcNT pmNT anNT cdNT ctNT), slNT⟩)
    (cNT : PySem.W.codeIn K cdNT "NoText.__init__" = true)
    (kNT : PySem.W.keepIn K (.ref fNT) = true)
    (iNT : PySem.W.isFn K (.ref fNT) = true)
    (aIn : PySem.W.findIn K (.ref C) "__init__" = some (some (.ref fIn)))
    (lIn : K.lookup fIn = some ⟨ocIn, odIn, .func (PySem.W.fnOf "__init__" "Moment.__init__" (defArgs sIn) (defBody sIn) (defScope sIn) (.ref TD) kVIn dcIn pmIn anIn cdIn ctIn), slIn⟩)
    (cIn : PySem.W.codeIn K cdIn "Moment.__init__" = true)
    (kIn : PySem.W.keepIn K (.ref fIn) = true)
    (iIn : PySem.W.isFn K (.ref fIn) = true)
    (aSt : PySem.W.findIn K (.ref C) "__str__" = some (some (.ref fSt)))
    (lSt : K.lookup fSt = some ⟨ocSt, odSt, .func (PySem.W.fnOf "__str__" "Moment.__str__" (defArgs sSt) (defBody sSt) (defScope sSt) .none kVSt dcSt pmSt anSt cdSt ctSt), slSt⟩)
    (cSt : PySem.W.codeIn K cdSt "Moment.__str__" = true)
    (kSt : PySem.W.keepIn K (.ref fSt) = true)
    (iSt : PySem.W.isFn K (.ref fSt) = true)
    (aRd : PySem.W.findCls K (.ref C) (.type "type") "read" = some (.get (.builtin "staticmethod.__get__") (.ref pR) .none (.ref C)))
    (rcR : PySem.W.recIn K pR "staticmethod" = some (.ref fRd :: rstR))
    (lRd : K.lookup fRd = some ⟨ocRd, odRd, .func (PySem.W.fnOf "read" "Moment.read" (defArgs sRd) (defBody sRd) (defScope sRd) .none kVRd dcRd pmRd anRd cdRd ctRd), slRd⟩)
    (cRd : PySem.W.codeIn K cdRd "Moment.read" = true)
    (kRd : PySem.W.keepIn K (.ref fRd) = true)
    (iRd : PySem.W.isFn K (.ref fRd) = true)
    (pgC : PySem.W.plainGet K C Str.empty = true)
    (hdC : PySem.W.hasDictIn K C = true)
    (poC : PySem.W.plainOver K C = true)
    (saC : PySem.W.findIn K (.ref C) "__setattr__" = some (some (.builtin "object.__setattr__")))
    (mkC : PySem.W.makesIn K C = true)
    (kcC : PySem.W.keepIn K (.ref C) = true)
    (nTop : PySem.W.findIn K (.ref C) "top" = some none)
    (nBot : PySem.W.findIn K (.ref C) "bottom" = some none)
    (clC : PySem.W.findIn K (.ref C) "__class__" = some (some (.builtin "object.__class__")))
    (clG : PySem.W.specialIn K (.builtin "object.__class__") "__get__" = some (some (.builtin "getset_descriptor.__get__")))
    (clT : PySem.W.takesIn K (.builtin "object.__class__") = some true)
    (mroO : PySem.W.mroIn K C (.type "object") = some true)
    (icC : PySem.W.isClsIn K C = true)
    (tyC : PySem.W.typeIn K (.ref C) = some (.type "type"))
    (sfC : PySem.W.selfFirst K C = true)
    (nIC : PySem.W.subIn K (.ref C) (.type "int") = some false)
    (nLC : PySem.W.subIn K (.ref C) (.type "list") = some false)
    (nDC : PySem.W.subIn K (.ref C) (.type "dict") = some false)
    (obC : PySem.W.subIn K (.ref C) (.type "object") = some true)
    (gLen : PySem.W.nsIn K mainGlobals "len" = some none)
    (gAbs : PySem.W.nsIn K mainGlobals "abs" = some none)
    (gInt : PySem.W.nsIn K mainGlobals "int" = some none)
    (gBool : PySem.W.nsIn K mainGlobals "bool" = some none)
    (gIsi : PySem.W.nsIn K mainGlobals "isinstance" = some none)
    (gRange : PySem.W.nsIn K mainGlobals "range" = some none)
    (gLst : PySem.W.nsIn K mainGlobals "list" = some none)
    (gDct : PySem.W.nsIn K mainGlobals "dict" = some none)
    (gGcd : PySem.W.nsIn K mainGlobals "gcd" = some (some (.builtin "math.gcd")))
    (xN : K.lookup CN = some (excClassObj nmN qN CN NN bsN [.ref CA, .type "ValueError", .type "Exception", .type "BaseException", .type "object"] true snN subN abN colN ddN m0 m1 m2 m3 m5 "ValueError.__new__"))
    (saN : PySem.W.findIn K (.ref CN) "__setattr__" = some (some (.builtin "object.__setattr__")))
    (exN : PySem.W.subIn K (.ref CN) (.type "BaseException") = some true)
    (tyN : PySem.W.typeIn K (.ref CN) = some (.type "type"))
    (kcN : PySem.W.keepIn K (.ref CN) = true)
    (nTN : PySem.W.findIn K (.ref CN) "top" = some none)
    (nBN : PySem.W.findIn K (.ref CN) "bottom" = some none)
    (tIN : PySem.W.typeIn K (.ref fNM) = some (.type "function"))
    (lTD : K.lookup TD = some ⟨ocTD, dTD, .seq #[.int 1 tkTD] nTD, slTD⟩)
    (xK : K.lookup CK = some (excClassObj nmK qK CK NNK bsK [.ref CA, .type "ValueError", .type "Exception", .type "BaseException", .type "object"] true snK subK abK colK ddK k0 k1 k2 k3 k5 "ValueError.__new__"))
    (saK : PySem.W.findIn K (.ref CK) "__setattr__" = some (some (.builtin "object.__setattr__")))
    (exK : PySem.W.subIn K (.ref CK) (.type "BaseException") = some true)
    (tyK : PySem.W.typeIn K (.ref CK) = some (.type "type"))
    (kcK : PySem.W.keepIn K (.ref CK) = true)
    (nXK : PySem.W.findIn K (.ref CK) "text" = some none)
    (tIK : PySem.W.typeIn K (.ref fNT) = some (.type "function"))
    (gaK : PySem.W.findIn K (.ref CK) "__getattribute__" = some (some (.builtin "BaseException.__getattribute__")))
    (ggK : PySem.W.findIn K (.ref CK) "__getattr__" = some none)
    (hdK : PySem.W.hasDictIn K CK = true)
    (icK : PySem.W.isClsIn K CK = true)
    (ssK : PySem.W.subIn K (.ref CK) (.ref CK) = some true)
    (gStr : PySem.W.nsIn K mainGlobals "str" = some none)
    (mD : PySem.W.nsIn K mainGlobals "MOST_DIGITS" = some (some (.int 60 t1)))
    (bD : PySem.W.nsIn K mainGlobals "BLOCK_DIGITS" = some (some (.int 60 t2)))
    (bK : PySem.W.nsIn K mainGlobals "BLOCK" = some (some (.int 1000000000000000000000000000000000000000000000000000000000000 t3)))
    (rdC : PySem.W.readsIn K C (.type "type") = true)
    (gaC : PySem.W.specialIn K (.ref C) "__getattribute__" = some (some (.builtin "type.__getattribute__"))) :
    ∃ fd : FuncData, (∀ (s : Shared) (u : Value), BindsTo s fd ⟨[u], []⟩ [("_law_script", u)]) ∧ ∀ base : Heap, K.In base → base.Ns mainGlobals mg → FnOk P w K mg base CX0 8 fa fd ["_law_script"] (spLaw K) := by
  have e := hfa.symm.trans (PySem.W.mg_of X G aLaw)
  cases e
  have FKp := fun_mk (st := sKp) lKp cKp kKp
  have FCe := fun_mk (st := sCe) lCe cCe kCe
  have FWh := fun_mk (st := sWh) lWh cWh kWh
  have FRa := fun_mk (st := sRa) lRa cRa kRa
  have FGc := fun_mk (st := sGc) lGc cGc kGc
  have FIi := fun_mk (st := sIi) lIi cIi kIi
  have FHo := fun_mk (st := sHo) lHo cHo kHo
  have FRo := fun_mk (st := sRo) lRo cRo kRo
  have FIn2 := fun_mk (st := sIn2) lIn2 cIn2 kIn2
  have FDc := fun_mk (st := sDc) lDc cDc kDc
  have FLn := fun_mk (st := sLn) lLn cLn kLn
  have FWr := fun_mk (st := sWr) lWr cWr kWr
  have FLo := fun_mk (st := sLo) lLo cLo kLo
  have FPn := fun_mk (st := sPn) lPn cPn kPn
  have FSg := fun_mk (st := sSg) lSg cSg kSg
  have FSp := fun_mk (st := sSp) lSp cSp kSp
  have FNe := fun_mk (st := sNe) lNe cNe kNe
  have FLaw := fun_mk (st := sLaw) lLaw cLaw kLaw
  have FNM := fun_mk (st := sNM) lNM cNM kNM
  have FNT := fun_mk (st := sNT) lNT cNT kNT
  have FSt := fun_mk (st := sSt) lSt cSt kSt
  have FRd := fun_mk (st := sRd) lRd cRd kRd
  have bKp := FKp.binds (ps := ["value"]) fun _ _ _ _ _ _ us hl => match us, hl with | [_], _ => rfl
  have bCe := FCe.binds (ps := ["_law_script", "_law_k"]) fun _ _ _ _ _ _ us hl => match us, hl with | [_, _], _ => rfl
  have bWh := FWh.binds (ps := ["_law_cell_here", "_law_most"]) fun _ _ _ _ _ _ us hl => match us, hl with | [_, _], _ => rfl
  have bRa := FRa.binds (ps := ["_law_a", "_law_b", "_law_most"]) fun _ _ _ _ _ _ us hl => match us, hl with | [_, _, _], _ => rfl
  have bGc := FGc.binds (ps := ["_law_a", "_law_b"]) fun _ _ _ _ _ _ us hl => match us, hl with | [_, _], _ => rfl
  have bIi := FIi.binds (ps := ["_law_actual"]) fun _ _ _ _ _ _ us hl => match us, hl with | [_], _ => rfl
  have bHo := FHo.binds (ps := ["_law_actual", "_law_top", "_law_bottom"]) fun _ _ _ _ _ _ us hl => match us, hl with | [_, _, _], _ => rfl
  have bRo := FRo.binds (ps := ["_law_cell_here", "_law_sizes"]) fun _ _ _ _ _ _ us hl => match us, hl with | [_, _], _ => rfl
  have bIn2 := FIn2.binds (ps := ["text"]) fun _ _ _ _ _ _ us hl => match us, hl with | [_], _ => rfl
  have bDc := FDc.binds (ps := ["number"]) fun _ _ _ _ _ _ us hl => match us, hl with | [_], _ => rfl
  have bLn := FLn.binds (ps := ["_law_text", "_law_least"]) fun _ _ _ _ _ _ us hl => match us, hl with | [_, _], _ => rfl
  have bWr := FWr.binds (ps := ["_law_text"]) fun _ _ _ _ _ _ us hl => match us, hl with | [_], _ => rfl
  have bLo := FLo.binds (ps := ["_law_top", "_law_bottom"]) fun _ _ _ _ _ _ us hl => match us, hl with | [_, _], _ => rfl
  have bPn := FPn.binds (ps := ["_law_pair"]) fun _ _ _ _ _ _ us hl => match us, hl with | [_], _ => rfl
  have bSg := FSg.binds (ps := ["_law_k"]) fun _ _ _ _ _ _ us hl => match us, hl with | [_], _ => rfl
  have bSp := FSp.binds (ps := ["_law_text", "_law_kind", "_law_place", "_law_k"]) fun _ _ _ _ _ _ us hl => match us, hl with | [_, _, _, _], _ => rfl
  have bNe := FNe.binds (ps := ["_law_k"]) fun _ _ _ _ _ _ us hl => match us, hl with | [_], _ => rfl
  have bNM := FNM.binds (ps := ["self", "top", "bottom"]) fun _ _ _ _ _ _ us hl => match us, hl with | [_, _, _], _ => rfl
  have bNT := FNT.binds (ps := ["self", "text"]) fun _ _ _ _ _ _ us hl => match us, hl with | [_, _], _ => rfl
  have bSt := FSt.binds (ps := ["self"]) fun _ _ _ _ _ _ us hl => match us, hl with | [_], _ => rfl
  have bRd := FRd.binds (ps := ["text"]) fun _ _ _ _ _ _ us hl => match us, hl with | [_], _ => rfl
  have T : Txt K mg C := ⟨PySem.W.mg_none_of X G gLen, PySem.W.mg_none_of X G gAbs, PySem.W.mg_none_of X G gInt, PySem.W.mg_none_of X G gBool, PySem.W.mg_none_of X G gIsi, PySem.W.mg_none_of X G gRange, PySem.W.mg_of X G gGcd, PySem.W.mg_of X G aC, ⟨pgC, hdC, poC, saC⟩, nTop, nBot, clC, clG, clT, mroO, kit_self, kit_ct nIC, kit_tc icC tyC nf_int, PySem.W.mg_none_of X G gLst, PySem.W.mg_none_of X G gDct, kit_ct nLC, kit_ct nDC⟩
  have TN : TxtN K mg CN fNM := ⟨⟨⟨_, _, _, _, _, _, _, _, _, _, _, _, _, _, _, xN, rfl⟩, saN, exN, tyN, kcN⟩, nTN, nBN, aNM, tIN, PySem.W.mg_of X G aN⟩
  have TO : Opc K C := ⟨sfC, nIC, obC⟩
  have FI : FunD K "__init__" "Moment.__init__" (defArgs sIn) (defBody sIn) (defScope sIn) [V.int 1] [] fIn _ := ⟨⟨_, _, _, _, _, _, _, _, _, _, rfl, lIn, cIn, .inr ⟨by simp, TD, _, [Value.int 1 tkTD], nTD, rfl, lTD, rfl, .cons ⟨_, rfl⟩ .nil⟩, .inl rfl⟩, kIn⟩
  obtain ⟨ds1, vds1, bIn1⟩ := FI.binds1 (ps := psIn) 2 0 (by simp) rfl fun _ _ _ _ _ _ _ us its hu hi => match us, hu, its, hi with | [_, _], _, [_], _ => ⟨_, rfl, rfl⟩
  obtain ⟨ds0, vds0, bIn0⟩ := FI.binds1 (ps := psIn) 3 1 (by simp) rfl fun _ _ _ _ _ _ _ us its hu hi => match us, hu, its, hi with | [_, _, _], _, [_], _ => ⟨_, rfl, rfl⟩
  cases vds0
  refine ⟨PySem.W.fnOf "law" "law" (defArgs sLaw) (defBody sLaw) (defScope sLaw) .none kVLaw dcLaw pmLaw anLaw cdLaw ctLaw, fun s v => .of_eq rfl, fun base _ _ => ?_⟩
  have OKp : Ok P w K mg base CX0 1 "_kept" _ (spKept K) := ⟨_, _, ok_kept FKp T, PySem.W.mg_of X G aKp, kKp, bKp⟩
  have OI : OkI P w K mg base C CN := ⟨fIn, _, ds1, ok_init FI T TN FNM bNM OKp, ⟨mkC, aIn, iIn, kcC⟩, bIn0, vds1, bIn1⟩
  have OC : Ok P w K mg base CX0 1 "_law_cell" _ (spCell K) := ⟨_, _, ok_cell FCe T, PySem.W.mg_of X G aCe, kCe, bCe⟩
  have OW : Ok P w K mg base CX0 1 "_law_whole" _ spWhole := ⟨_, _, ok_whole FWh T, PySem.W.mg_of X G aWh, kWh, bWh⟩
  have OR : Ok P w K mg base CX0 2 "_law_ratio" _ spRatio := ⟨_, _, ok_ratio FRa T OW, PySem.W.mg_of X G aRa, kRa, bRa⟩
  have OG : Ok P w K mg base CX0 1 "_law_gcd" _ spGcd := ⟨_, _, ok_gcd FGc T, PySem.W.mg_of X G aGc, kGc, bGc⟩
  have OJ : Ok P w K mg base CX0 1 "_law_is_int" _ spIsInt := ⟨_, _, ok_isint FIi T, PySem.W.mg_of X G aIi, kIi, bIi⟩
  have OH : Ok P w K mg base CX0 2 "_law_holds" _ (spHolds C) := ⟨_, _, ok_holds FHo T OJ OG, PySem.W.mg_of X G aHo, kHo, bHo⟩
  have OO : Ok P w K mg base CX0 1 "_law_row" _ (spRow K) := ⟨_, _, ok_row FRo T, PySem.W.mg_of X G aRo, kRo, bRo⟩
  have TT : TxtT K mg CK fNT t1 t2 t3 := ⟨PySem.W.mg_none_of X G gStr, PySem.W.mg_of X G mD, PySem.W.mg_of X G bD, by
    have e : (10 : Int) ^ 60 = 1000000000000000000000000000000000000000000000000000000000000 := by decide
    rw [e]
    exact PySem.W.mg_of X G bK, ⟨⟨_, _, _, _, _, _, _, _, _, _, _, _, _, _, _, xK, rfl⟩, saK, exK, tyK, kcK⟩, nXK, aNT, tIK, PySem.W.mg_of X G aK⟩
  have TX : XfC K CK := ⟨gaK, ggK, exK, hdK⟩
  have ON2 : Ok P w K mg base CX0 1 "_is_number" _ spIsNum := ⟨_, _, ok_isnum FIn2 T TT, PySem.W.mg_of X G aIn2, kIn2, bIn2⟩
  have OD : Ok P w K mg base CX0 1 "_decimal" _ spDec := ⟨_, _, ok_dec FDc T TT, PySem.W.mg_of X G aDc, kDc, bDc⟩
  have GS : FnOk P w K mg base CX0 2 _ _ _ (spStr C) := ok_str FSt T OD
  have GR : FnOk P w K mg base (L2.CX P w) 6 _ _ _ (spRead C CK) := ok_read FRd T TT FNT bNT OKp OI ON2 GS aSt iSt bSt
  have OLn : Ok P w K mg base CX0 1 "_law_is_number" _ spLNum := ⟨_, _, ok_lnum FLn T, PySem.W.mg_of X G aLn, kLn, bLn⟩
  have OWr : Ok P w K mg base CX0 2 "_law_is_written" _ spWrit := ⟨_, _, ok_written FWr T OG OLn, PySem.W.mg_of X G aWr, kWr, bWr⟩
  have OLo : Ok P w K mg base CX0 2 "_law_low" _ spLw7 := ⟨_, _, ok_low FLo T OG, PySem.W.mg_of X G aLo, kLo, bLo⟩
  have OPn : Ok P w K mg base CX0 1 "_law_printed" _ spPrn := ⟨_, _, ok_printed FPn T TT, PySem.W.mg_of X G aPn, kPn, bPn⟩
  have OSg : Ok P w K mg base CX0 1 "_law_sign" _ spSign := ⟨_, _, ok_sign FSg T, PySem.W.mg_of X G aSg, kSg, bSg⟩
  have OSp : Ok P w K mg base CX0 2 "_law_spoilt" _ spSpoilt := ⟨_, _, ok_spoilt FSp T OSg, PySem.W.mg_of X G aSp, kSp, bSp⟩
  have ONe : Ok P w K mg base CX0 1 "_law_near" _ spNear := ⟨_, _, ok_near FNe T, PySem.W.mg_of X G aNe, kNe, bNe⟩
  exact ok_law FLaw T TT TX (exm_own exK icK tyK ssK) ⟨rdC, gaC⟩ ⟨aRd, ⟨_, rcR⟩, kRd⟩ GR bRd aSt iSt GS bSt OI OC OR OH OO OLo OPn OSp ONe OWr
theorem walk {l : PySem.W.OpenLaw} {q : Program} {loose : List Str} {XP : (Str → Option Value) → Heap → Prop} {YP : World → Heap → Prop} {d : DefRec} {K : Params → PySem.W.Frag} (hn : l.most = some 63) (hdf : d.params.defaults = [])
    (hY : ∀ (w : World) (h : Heap), YP w h → (K w.params).In h)
    (F : ∀ (w : World) (mg : Str → Option Value) (fa : Addr) (h : Heap), (K w.params).In h → h.Ns mainGlobals mg → mg d.name = some (.ref fa) →
      ∃ fd : FuncData, (∀ (s : Shared) (u : Value), BindsTo s fd ⟨[u], []⟩ [("_law_script", u)]) ∧ ∀ base : Heap, (K w.params).In base → base.Ns mainGlobals mg → FnOk l.prog w (K w.params) mg base CX0 8 fa fd ["_law_script"] (spLaw (K w.params))) :
    PySem.W.WalkO q loose XP YP l.row.toRowW d [] (fun f vs => PySem.call f vs) :=
  L2.walk_of (n := 63) (k := 8) (x := "_law_script") (CX := fun _ => CX0) (sp := fun w => spLaw (K w.params)) hn (by decide) hdf ⟨rfl, by decide, by decide⟩ hY F (fun _ _ a ns hl _ hS => ⟨a, ns, rfl, hS, hl, fun _ => rfl⟩) fun _ _ _ _ _ z => z
end Mo
open PySem PySem.W PyProof.Rows
set_option maxRecDepth 100000 in
set_option maxHeartbeats 0 in
theorem PySem.Challenge.cw_anytune_k07_texts_of_moments_holds : PySem.Challenge.rw_anytune_k07_texts_of_moments.Holds := by
  w_on; o_law; k_head; (case hw => w_witness2)
  k_fill
  refine Mo.walk (l := PySem.Challenge.rw_anytune_k07_texts_of_moments) rfl rfl (fun w h Y => PySem.W.kIn_of Y) ?F
  case F =>
    intro w mg fa h KX G hmg
    refine' Mo.all_mk KX G hmg ?aC ?aN ?aK ?aKp ?lKp ?cKp ?kKp ?aCe ?lCe ?cCe ?kCe ?aWh ?lWh ?cWh ?kWh ?aRa ?lRa ?cRa ?kRa ?aGc ?lGc ?cGc ?kGc ?aIi ?lIi ?cIi ?kIi ?aHo ?lHo ?cHo ?kHo ?aRo ?lRo ?cRo ?kRo ?aIn2 ?lIn2 ?cIn2 ?kIn2 ?aDc ?lDc ?cDc ?kDc ?aLn ?lLn ?cLn ?kLn ?aWr ?lWr ?cWr ?kWr ?aLo ?lLo ?cLo ?kLo ?aPn ?lPn ?cPn ?kPn ?aSg ?lSg ?cSg ?kSg ?aSp ?lSp ?cSp ?kSp ?aNe ?lNe ?cNe ?kNe ?aLaw ?lLaw ?cLaw ?kLaw ?aNM ?lNM ?cNM ?kNM ?iNM ?aNT ?lNT ?cNT ?kNT ?iNT ?aIn ?lIn ?cIn ?kIn ?iIn ?aSt ?lSt ?cSt ?kSt ?iSt ?aRd ?rcR ?lRd ?cRd ?kRd ?iRd ?pgC ?hdC ?poC ?saC ?mkC ?kcC ?nTop ?nBot ?clC ?clG ?clT ?mroO ?icC ?tyC ?sfC ?nIC ?nLC ?nDC ?obC ?gLen ?gAbs ?gInt ?gBool ?gIsi ?gRange ?gLst ?gDct ?gGcd ?xN ?saN ?exN ?tyN ?kcN ?nTN ?nBN ?tIN ?lTD ?xK ?saK ?exK ?tyK ?kcK ?nXK ?tIK ?gaK ?ggK ?hdK ?icK ?ssK ?gStr ?mD ?bD ?bK ?rdC ?gaC
    (case aC => k_is)
    (case aN => k_is)
    (case aK => k_is)
    (case aKp => k_is)
    (case lKp => k_is)
    (case cKp => k_is)
    (case kKp => k_is)
    (case aCe => k_is)
    (case lCe => k_is)
    (case cCe => k_is)
    (case kCe => k_is)
    (case aWh => k_is)
    (case lWh => k_is)
    (case cWh => k_is)
    (case kWh => k_is)
    (case aRa => k_is)
    (case lRa => k_is)
    (case cRa => k_is)
    (case kRa => k_is)
    (case aGc => k_is)
    (case lGc => k_is)
    (case cGc => k_is)
    (case kGc => k_is)
    (case aIi => k_is)
    (case lIi => k_is)
    (case cIi => k_is)
    (case kIi => k_is)
    (case aHo => k_is)
    (case lHo => k_is)
    (case cHo => k_is)
    (case kHo => k_is)
    (case aRo => k_is)
    (case lRo => k_is)
    (case cRo => k_is)
    (case kRo => k_is)
    (case aIn2 => k_is)
    (case lIn2 => k_is)
    (case cIn2 => k_is)
    (case kIn2 => k_is)
    (case aDc => k_is)
    (case lDc => k_is)
    (case cDc => k_is)
    (case kDc => k_is)
    (case aLn => k_is)
    (case lLn => k_is)
    (case cLn => k_is)
    (case kLn => k_is)
    (case aWr => k_is)
    (case lWr => k_is)
    (case cWr => k_is)
    (case kWr => k_is)
    (case aLo => k_is)
    (case lLo => k_is)
    (case cLo => k_is)
    (case kLo => k_is)
    (case aPn => k_is)
    (case lPn => k_is)
    (case cPn => k_is)
    (case kPn => k_is)
    (case aSg => k_is)
    (case lSg => k_is)
    (case cSg => k_is)
    (case kSg => k_is)
    (case aSp => k_is)
    (case lSp => k_is)
    (case cSp => k_is)
    (case kSp => k_is)
    (case aNe => k_is)
    (case lNe => k_is)
    (case cNe => k_is)
    (case kNe => k_is)
    (case aLaw => k_is)
    (case lLaw => k_is)
    (case cLaw => k_is)
    (case kLaw => k_is)
    (case aNM => k_is)
    (case lNM => k_is)
    (case cNM => k_is)
    (case kNM => k_is)
    (case iNM => k_is)
    (case aNT => k_is)
    (case lNT => k_is)
    (case cNT => k_is)
    (case kNT => k_is)
    (case iNT => k_is)
    (case aIn => k_is)
    (case lIn => k_is)
    (case cIn => k_is)
    (case kIn => k_is)
    (case iIn => k_is)
    (case aSt => k_is)
    (case lSt => k_is)
    (case cSt => k_is)
    (case kSt => k_is)
    (case iSt => k_is)
    (case aRd => k_is)
    (case rcR => k_is)
    (case lRd => k_is)
    (case cRd => k_is)
    (case kRd => k_is)
    (case iRd => k_is)
    (case pgC => k_is)
    (case hdC => k_is)
    (case poC => k_is)
    (case saC => k_is)
    (case mkC => k_is)
    (case kcC => k_is)
    (case nTop => k_is)
    (case nBot => k_is)
    (case clC => k_is)
    (case clG => k_is)
    (case clT => k_is)
    (case mroO => k_is)
    (case icC => k_is)
    (case tyC => k_is)
    (case sfC => k_is)
    (case nIC => k_is)
    (case nLC => k_is)
    (case nDC => k_is)
    (case obC => k_is)
    (case gLen => k_is)
    (case gAbs => k_is)
    (case gInt => k_is)
    (case gBool => k_is)
    (case gIsi => k_is)
    (case gRange => k_is)
    (case gLst => k_is)
    (case gDct => k_is)
    (case gGcd => k_is)
    (case xN => k_is)
    (case saN => k_is)
    (case exN => k_is)
    (case tyN => k_is)
    (case kcN => k_is)
    (case nTN => k_is)
    (case nBN => k_is)
    (case tIN => k_is)
    (case lTD => k_is)
    (case xK => k_is)
    (case saK => k_is)
    (case exK => k_is)
    (case tyK => k_is)
    (case kcK => k_is)
    (case nXK => k_is)
    (case tIK => k_is)
    (case gaK => k_is)
    (case ggK => k_is)
    (case hdK => k_is)
    (case icK => k_is)
    (case ssK => k_is)
    (case gStr => k_is)
    (case mD => k_is)
    (case bD => k_is)
    (case bK => k_is)
    (case rdC => k_is)
    (case gaC => k_is)


