import PyProof.Rows.All
import Wide.All
import OpenK.AllK
import Wide.FinOn
import HandS.ForMost
import HandS.ForExc
import HandS.Evl
import HandS.Wide
import HandS.Gcd
import HandS.IsInst
import HandS.ExcInit
import HandS.ExcField
import HandS.CallSlots
import HandS.Defaults
import HandS.MakeKw
import HandS.OwnEq
import HandS.ExcBuiltin
import HandS.RaiseOp
import HandS.TryOnly
import PyProof.Rows.Range3
import HandS.ExcValue
import KE.KExcIs
import HandS.MakeKwOnly
import PySem.Challenge.RW_anytune_k08_marks
set_option Elab.async false
set_option linter.all false
set_option maxRecDepth 100000
set_option maxHeartbeats 2000000
namespace Mo
open PySem PySem.W PySem.Calls PyProof.Rows
section
variable {prog : Program} {w : World} {M : Model} {A : Around} {E : Value → Shared → Prop} {s : Shared} {K : Frag} {x C L f : Addr} {h₀ : Heap} {m : Str → Option Value} {ox : Obj} {od : Option Obj} {f₁ : Addr}

theorem intBin_no {nm : String} {g : Int → Int → Sem PySem.Fin} {refl : Bool} {i : Int} {t : Tok} {Q : PySem.Fin → Shared → Prop} (hx : s.heap.get? x = some ox) (hd : ox.data = .plain)
    (h : Q (.done (.ret .notImplemented)) s) : wpAny M A (Builtin.Int.intBinary nm g refl ⟨[.int i t, .ref x], []⟩) Q E s := by
  obtain ⟨hp, g', d, tk, os⟩ := s
  unfold Builtin.Int.intBinary
  wp_walk using wpAny_loadPart' hx
  rw [hd]
  wp_walk
  exact h

/-- an int's built-in that hands an own instance back -/
def Declines (B : Builtin) : Prop := ∀ (M : Model) (A : Around) (E : Value → Shared → Prop) (s : Shared) (i : Int) (t : Tok) (x : Addr) (ox : Obj) (Q : PySem.Fin → Shared → Prop), s.heap.get? x = some ox → ox.data = .plain → Q (.done (.ret .notImplemented)) s → wpAny M A (B ⟨[.int i t, .ref x], []⟩) Q E s
theorem dec_bin {nm : String} {g : Int → Int → Sem PySem.Fin} {refl : Bool} : Declines (Builtin.Int.intBinary nm g refl) := fun _ _ _ _ _ _ _ _ _ hx hd h => intBin_no hx hd h
theorem call_int_no {id : String} {B : Builtin} {name : Str} {i : Int} {t : Tok} {Q : Value → Shared → Prop} (slot : Slot "int" name id) (entry : entryFor table id = some B) (args : argsOk id ⟨[.int i t, .ref x], []⟩)
    (hB : Declines B) (hx : s.heap.get? x = some ox) (hd : ox.data = .plain) (h : Q .notImplemented s) :
    wpAny (model prog w) A (call (.builtin id) [.int i t, .ref x]) Q E s := by
  exact wpAny_call (codeAny_call_builtin slot.plain entry (slot.check _ _ _ _ _ _ _ _ (typeIs_int s i t) args (hB _ _ _ _ _ _ _ _ _ hx hd h)))

/-- k op a, a an own instance whose class has the reflected operator -/
theorem binR_K {op : Operator} {i : Int} {t : Tok} {id : String} {B : Builtin} {Q : Value → Shared → Prop} (F : Fr h₀ L s.heap m) (X₀ : K.In h₀) (I : InstAt s.heap x ox C od) (hpl : ox.data = .plain) (hc : selfFirst K C = true)
    (hs : findIn K (.ref C) (PySem.dunder op.info.2) = some (some (.ref f₁))) (hs1 : isFn K (.ref f₁) = true)
    (hr : findIn K (.ref C) (dunderR op.info.2) = some (some (.ref f))) (hf : isFn K (.ref f) = true) (hsub : subIn K (.ref C) (.type "int") = some false)
    (slot : Slot "int" (PySem.dunder op.info.2) id) (fills : fillsNumberSlot (.type "int") op.info.2 = pure true) (entry : entryFor table id = some B) (args : argsOk id ⟨[.int i t, .ref x], []⟩)
    (hB : Declines B)
    (h : wpAny (model prog w) A (call (.ref f) [.ref x, .int i t]) (W.CmpBack Q) E s) : wpAny (model prog w) A (binaryOp op (.int i t) (.ref x)) Q E s := by
  have X := X₀.keeps F.keep
  obtain ⟨cd, rest, hcd, hm⟩ := ksp_first hc
  rcases hi : op.info with ⟨sym, nm'⟩
  rw [hi] at hs hr slot fills
  dsimp only at hs hr slot fills
  have two := ksp_try X I hr hf h
  have one : wpAny (model prog w) A (tryMethod (.int i t) (PySem.dunder nm') (.ref x)) (fun r s' => r = none ∧ s' = s) E s :=
    wpAny_tryMethod_declines (typeIs_int s i t) slot (call_int_no slot entry args hB I.1 hpl ⟨rfl, rfl, rfl⟩)
  obtain ⟨hh, g', d, tk, os⟩ := s
  have L1 : Looks (model prog w) hh (typeOf (.int i t)) (.type "int") := Looks.of_pure rfl
  have L2 : Looks (model prog w) hh (typeOf (.ref x)) (.ref C) := I.type
  have L3 : Looks (model prog w) hh (fillsNumberSlot (.type "int") nm') true := Looks.of_pure fills
  have L4 : Looks (model prog w) hh (fillsNumberSlot (.ref C) nm') true := fills_K X hcd hm hs
  have L5 : Looks (model prog w) hh (isSubtype (.ref C) (.type "int")) false := looks_subIn X hsub
  have L6 : Looks (model prog w) hh (numberSlotInPython (.type "int") nm') false := Looks.of_pure rfl
  have hne : (Value.type "int" == Value.ref C) = false := Bool.eq_false_iff.mpr fun q => by cases beq_iff_eq.mp q
  simp only [binaryOp, hi]
  refine wpAny_holding (wpAny_bind ?_)
  unfold binaryOp1
  refine wpAny_bind (L1.at (wpAny_bind (L2.at (wpAny_bind (L3.at ?_)))))
  simp only [hne, Bool.false_eq_true, if_false]
  ksp_lk
  refine wpAny_mono one (fun r s' hr' => ?_) fun _ _ e => e
  obtain ⟨rfl, rfl⟩ := hr'
  ksp_lk
  refine wpAny_mono two (fun r s' hr' => ?_) fun _ _ e => e
  obtain ⟨v, rfl, hq⟩ := hr'
  ksp_lk
  exact hq

/-- int.__lt__ and its like on an own instance -/
theorem tryCmp_int_no {id : String} {B : Builtin} {name : Str} {i : Int} {t : Tok} (slot : Slot "int" name id) (entry : entryFor table id = some B) (args : argsOk id ⟨[.int i t, .ref x], []⟩)
    (hB : Declines B) (hx : s.heap.get? x = some ox) (hd : ox.data = .plain) :
    wpAny (model prog w) A (tryCompare (.int i t) name (.ref x)) (fun r s' => r = none ∧ s' = s) E s := by
  unfold tryCompare
  refine wpAny_bind (wpAny_callSpecialIfBound?_slot (typeIs_int s i t) slot (call_int_no slot entry args hB hx hd ?_))
  exact wpAny_pure ⟨rfl, rfl⟩
theorem tryCmp_K {name : Str} {b : Value} {Q : Value → Shared → Prop} (X : K.In s.heap) (I : InstAt s.heap x ox C od) (hs : findIn K (.ref C) name = some (some (.ref f))) (hf : isFn K (.ref f) = true)
    (h : wpAny M A (call (.ref f) [.ref x, b]) (W.CmpBack Q) E s) : wpAny M A (tryCompare (.ref x) name b) (fun r s' => ∃ v, r = some v ∧ Q v s') E s := by
  unfold tryCompare
  refine wpAny_bind (ifBound_K X I hs hf (wpAny_mono h (fun v s' hv => ?_) fun _ _ e => e))
  cases v <;> first | exact hv.elim | exact wpAny_pure ⟨_, rfl, hv⟩
/-- x != b by x.__eq__(b): object.__ne__ -/
theorem tryNe_K {b : Value} {Q : Value → Shared → Prop} (hu : A.units + 1 < cLine) (X : K.In s.heap) (I : InstAt s.heap x ox C od) (hn : findIn K (.ref C) "__ne__" = some (some (.builtin "object.__ne__"))) (ho : subIn K (.ref C) (.type "object") = some true)
    (hs : findIn K (.ref C) "__eq__" = some (some (.ref f))) (hf : isFn K (.ref f) = true)
    (h : wpAny (model prog w) A.in1 (call (.ref f) [.ref x, b]) (fun v s' => ∃ k, v = .bool k ∧ Q (.bool (!k)) s') E s) :
    wpAny (model prog w) A (tryCompare (.ref x) "__ne__" b) (fun r s' => ∃ v, r = some v ∧ Q v s') E s := by
  have FB := F.cmp_object
  have fin : wpAny (model prog w) A (call (.builtin "object.__ne__") [.ref x, b]) (fun v s' => ∃ k, v = .bool k ∧ Q v s') E s := by
    obtain ⟨hp, g', d, tk, os⟩ := s
    have sub : Looks (model prog w) hp (isInstance (.ref x) (.type "object")) true := I.type.andThen (looks_subIn X ho)
    refine wpAny_call (codeAny_call_builtin FB.ne.plain F.cmpEntry_ne (@W.check_slot (model prog w) _ _ ⟨hp, g', d, tk, os⟩ "object.__ne__" "object" "__ne__" (.ref x) [b] [] _ F.cmpKind_ne F.cmpSplit_ne sub (F.cmpArgs_ne _ _) ?_))
    unfold Builtin.«object.__ne__»
    repeat (first
      | with_reducible refine wpAny_cRoomFor hu ?_
      | (refine wpAny_bind (m := callSpecialIfBound? (.ref x) (Str.ofString "__eq__") [b])
          (ifBound_K X I hs hf (wpAny_mono h (fun r s' hr => by
            obtain ⟨k, rfl, hq⟩ := hr
            repeat (first | exact ⟨_, rfl, hq⟩ | exact wpAny_pure ⟨_, rfl, hq⟩ | (refine wpAny_bind (m := truthy (.bool _)) (wpAny_truthy_bool ?_)) | wp_step)) fun _ _ e => e)))
      | wp_step)
  unfold tryCompare
  refine wpAny_bind ?_
  simp only [callSpecialIfBound?, bindSpecialIfBound?]
  refine wpAny_holding (wpAny_bind (wpAny_bind (wpAny_bind (I.type.here ((looks_findIn X hn).here ?_)))))
  simp only [FB.ne.bind]
  refine wpAny_bind (wpAny_askSetting (wpAny_ite ?_))
  have fin2 : wpAny (model prog w) A (call (.builtin "object.__ne__") ([.ref x] ++ [b]) >>= fun v => pure (some v)) (fun r s' => wpAny (model prog w) A (match r with | some .notImplemented | none => pure none | some v => pure (some v)) (fun r s' => ∃ v, r = some v ∧ Q v s') E s') E s :=
    wpAny_bind (wpAny_mono fin (fun v s' ⟨k, e, h'⟩ => by subst e; exact wpAny_pure (wpAny_pure ⟨_, rfl, h'⟩)) fun _ _ h' => h')
  split
  · exact wpAny_bind (wpAny_pure (wpAny_pure fin2))
  · exact wpAny_tryCatch (wpAny_bind (wpAny_pure (wpAny_pure fin2)))

/-- the rest of a comparison, x the own instance on the left -/
theorem cmpL_K {op : CmpOp} {b tb : Value} {Q : Value → Shared → Prop} (hu : A.units < cLine) (X : K.In s.heap) (I : InstAt s.heap x ox C od) (hb : Looks (model prog w) s.heap (typeOf b) tb) (hn : notFirst K C tb = true)
    (one : wpAny (model prog w) A (tryCompare (.ref x) (cmpInfo op).2.1 b) (fun r s' => ∃ v, r = some v ∧ Q v s') E s) : wpAny (model prog w) A (richCompare op (.ref x) b) Q E s := by
  unfold richCompare
  simp only [oneThing_ref]
  refine wpAny_holding (wpAny_bind (wpAny_cRoomFor hu ?_))
  refine wpAny_bind (I.type.here (wpAny_bind (hb.here ?_)))
  split
  · rename_i q
    have e : subIn K tb (.ref C) = some false := by
      rcases Bool.or_eq_true_iff.mp hn with e | e
      · rw [beq_iff_eq.mp e] at q; simp at q
      · exact beq_iff_eq.mp e
    refine wpAny_bind ((looks_subIn X e).here ?_)
    simp only [Bool.false_eq_true, if_false]
    refine wpAny_bind (wpAny_mono one (fun r s' z => ?_) fun _ _ e => e)
    obtain ⟨v, rfl, hq⟩ := z
    exact wpAny_pure hq
  · refine wpAny_bind (wpAny_pure ?_)
    simp only [Bool.false_eq_true, if_false]
    refine wpAny_bind (wpAny_mono one (fun r s' z => ?_) fun _ _ e => e)
    obtain ⟨v, rfl, hq⟩ := z
    exact wpAny_pure hq
/-- an int on the left -/
theorem cmpR_K {op : CmpOp} {i : Int} {t : Tok} {id : String} {B : Builtin} {Q : Value → Shared → Prop} (hu : A.units < cLine) (X : K.In s.heap) (I : InstAt s.heap x ox C od) (hpl : ox.data = .plain) (hsub : subIn K (.ref C) (.type "int") = some false)
    (slot : Slot "int" (cmpInfo op).2.1 id) (entry : entryFor table id = some B) (args : argsOk id ⟨[.int i t, .ref x], []⟩)
    (hB : Declines B)
    (two : wpAny (model prog w) A (tryCompare (.ref x) (cmpInfo op).2.2 (.int i t)) (fun r s' => ∃ v, r = some v ∧ Q v s') E s) : wpAny (model prog w) A (richCompare op (.int i t) (.ref x)) Q E s := by
  have one := tryCmp_int_no (prog := prog) (w := w) (A := A) (E := E) slot entry args hB I.1 hpl
  have o1 : oneThing? op (.int i t) (.ref x) = none := (typeIs_int s i t).oneThing_none op _
  unfold richCompare
  simp only [o1]
  refine wpAny_holding (wpAny_bind (wpAny_cRoomFor hu ?_))
  refine wpAny_bind (wpAny_typeOf (typeIs_int s i t) (wpAny_bind (I.type.here ?_)))
  have hne : (Value.type "int" != Value.ref C) = true := by
    rw [bne_iff_ne]
    intro q
    cases q
  rw [if_pos hne]
  refine wpAny_bind ((looks_subIn X hsub).here ?_)
  simp only [Bool.false_eq_true, if_false]
  refine wpAny_bind (wpAny_mono one (fun r s' z => ?_) fun _ _ e => e)
  obtain ⟨rfl, rfl⟩ := z
  dsimp only
  rw [if_pos (show (!false) = true from rfl)]
  refine wpAny_bind (wpAny_mono two (fun r s' z => ?_) fun _ _ e => e)
  obtain ⟨v, rfl, hq⟩ := z
  exact wpAny_pure hq
end
end Mo

namespace Mo
open PySem L2
/-- what the written part says of a class with operators of its own -/
structure Opc (K : PySem.W.Frag) (C : Addr) : Prop where
  sf : PySem.W.selfFirst K C = true
  nInt : PySem.W.subIn K (.ref C) (.type "int") = some false
  obj : PySem.W.subIn K (.ref C) (.type "object") = some true
theorem tyNot {K : PySem.W.Frag} {C : Addr} {T : String} (h : (PySem.fastBuiltinMro T).any (fun l => l.all fun v => match v with | .type _ => true | _ => false) = true) : PySem.W.subIn K (.type T) (.ref C) = some false := by
  show (PySem.fastBuiltinMro T).map (·.contains (.ref C)) = some false
  cases e : PySem.fastBuiltinMro T with
  | none => rw [e] at h; cases h
  | some l =>
    rw [e] at h
    show some (l.contains (.ref C)) = some false
    have h' : (l.all fun v => match v with | .type _ => true | _ => false) = true := h
    congr 1
    rw [List.contains_eq_any_beq]
    rw [List.any_eq_false]
    intro v hv q
    have z := List.all_eq_true.mp h' v hv
    have z2 := beq_iff_eq.mp q
    subst z2
    cases z
theorem notFirstT {K : PySem.W.Frag} {C : Addr} {T : String} (h : PySem.W.subIn K (.type T) (.ref C) = some false) : PySem.W.notFirst K C (.type T) = true := by
  unfold PySem.W.notFirst
  rw [h]
  simp
theorem notFirstC {K : PySem.W.Frag} {C : Addr} : PySem.W.notFirst K C (.ref C) = true := by
  unfold PySem.W.notFirst
  simp
theorem nf_int {K : PySem.W.Frag} {C : Addr} : PySem.W.subIn K (.type "int") (.ref C) = some false := tyNot (by decide +kernel)
theorem nf_str {K : PySem.W.Frag} {C : Addr} : PySem.W.subIn K (.type "str") (.ref C) = some false := tyNot (by decide +kernel)
theorem nf_none {K : PySem.W.Frag} {C : Addr} : PySem.W.subIn K (.type "NoneType") (.ref C) = some false := tyNot (by decide +kernel)
theorem nf_list {K : PySem.W.Frag} {C : Addr} : PySem.W.subIn K (.type "list") (.ref C) = some false := tyNot (by decide +kernel)
theorem nf_tuple {K : PySem.W.Frag} {C : Addr} : PySem.W.subIn K (.type "tuple") (.ref C) = some false := tyNot (by decide +kernel)

section
variable {X : Cx} {CX : CXT} {n k : Nat} {f f₁ C : Addr} {fd : FuncData} {ps : List Str} {sp : Sp} {E : XK}
theorem cmpBack_of {pins : List (Addr × Obj)} {σ : St} {Q : VK} {v : Value} {s' : Shared} (h : EP X pins σ Q v s') : PySem.W.CmpBack (EP X pins σ Q) v s' := by
  obtain ⟨x, H', I, r, q⟩ := id h
  cases v <;> first | exact h | skip
  cases x <;> first | (cases r; done) | (obtain ⟨_, r⟩ := r; cases r; done) | (exact absurd r (by intro z; cases z))
theorem run_op (F : FnOk X.prog X.w X.K X.mg X.base CX n f fd ps sp) (hr : Room n X.A) (hb : Binds X.K fd ps []) (hx : Passes CX X E) {pins : List (Addr × Obj)} {s : Shared} {σ : St} {H : Hp} {xs : List V} {us : List Value} {Q : VK}
    (I : Inv X pins σ H s) (r : Vals xs us) (h : sp xs H Q E) : wpAny (model X.prog X.w) X.A (call (.ref f) us) (PySem.W.CmpBack (EP X pins σ Q)) X.xe s :=
  wpAny_mono (run_fn (dvs := []) (ds := []) F hr hb .nil hx I r (by rw [List.append_nil]; exact h)) (fun v s' z => cmpBack_of z) fun _ _ e => e
theorem v2rr (a b : Addr) : Vals [V.ref a, V.ref b] [Value.ref a, Value.ref b] := .cons rfl (.cons rfl .nil)
theorem v2ri (a : Addr) (i : Int) (t : Tok) : Vals [V.ref a, V.int i] [Value.ref a, Value.int i t] := .cons rfl (.cons ⟨_, rfl⟩ .nil)
theorem v2ry (a : Addr) {y : V} {u : Value} (r : RelV y u) : Vals [V.ref a, y] [Value.ref a, u] := .cons rfl (.cons r .nil)
/-- a two-place method of the class -/
structure Op2 (K : PySem.W.Frag) (C : Addr) (nm : String) (f : Addr) : Prop where
  at_ : PySem.W.findIn K (.ref C) (PySem.dunder nm) = some (some (.ref f))
  fn : PySem.W.isFn K (.ref f) = true
  rr : ∃ g : Addr, PySem.W.findIn K (.ref C) (PySem.dunderR nm) = some none ∨ PySem.W.findIn K (.ref C) (PySem.dunderR nm) = some (some (.ref g))
structure OpR2 (K : PySem.W.Frag) (C : Addr) (nm : String) (f : Addr) : Prop where
  at_ : PySem.W.findIn K (.ref C) (PySem.dunderR nm) = some (some (.ref f))
  fn : PySem.W.isFn K (.ref f) = true
  ll : ∃ g : Addr, PySem.W.findIn K (.ref C) (PySem.dunder nm) = some (some (.ref g)) ∧ PySem.W.isFn K (.ref g) = true
def IsC (C : Addr) (x : V) (H : Hp) : Prop := ∃ a dx fs, x = .ref a ∧ H a = some (.ins C dx fs)
def rOwn (C : Addr) (sp : Sp) (E : XK) : R2 := fun x y H Q => IsC C x H ∧ (IsC C y H ∨ ∃ i, y = .int i) ∧ sp [x, y] H Q E
def rOwnR (C : Addr) (sp : Sp) (E : XK) : R2 := fun x y H Q => (∃ i, x = .int i) ∧ IsC C y H ∧ sp [y, x] H Q E
/-- int's own facts of an operator -/
structure IntOp (op : Operator) : Prop where
  fo : ∃ fo ro, (∀ K : PySem.W.Frag, PySem.W.findIn K (.type "int") (PySem.dunder op.info.2) = some fo) ∧ (∀ K : PySem.W.Frag, PySem.W.findIn K (.type "int") (PySem.dunderR op.info.2) = some ro)
theorem op_own {op : Operator} (T : Opc X.K C) (IO : IntOp op) (O : Op2 X.K C op.info.2 f) (F : FnOk X.prog X.w X.K X.mg X.base CX n f fd ps sp) (hr : Room n X.A) (hb : Binds X.K fd ps []) (hx : Passes CX X E) : OpR X (binaryOp op) (rOwn C sp E) := by
  intro pins s σ H x y v u Q I rx ry h
  obtain ⟨⟨a, dx, fs, rfl, ha⟩, hy, q⟩ := h
  cases rx
  obtain ⟨mA, J, _⟩ := ins_get I.hok ha
  obtain ⟨od, J, _⟩ := J.look
  obtain ⟨m, hF⟩ := I.fr
  rcases hy with ⟨b, dy, gs, rfl, hb'⟩ | ⟨i, rfl⟩
  · cases ry
    obtain ⟨mB, J', _⟩ := ins_get I.hok hb'
    obtain ⟨od', J', _⟩ := J'.look
    exact PySem.W.binop_K hF I.ok.mod.kin J J'.type T.sf O.at_ O.fn (run_op F hr hb hx I (v2rr _ _) q)
  · obtain ⟨t, rfl⟩ := ry
    obtain ⟨fo, ro, e1, e2⟩ := IO.fo
    obtain ⟨g, e3⟩ := O.rr
    obtain ⟨rc, e4, e5⟩ : ∃ rc, PySem.W.findIn X.K (.ref C) (PySem.dunderR op.info.2) = some rc ∧ (rc = none ∨ ∃ g : Addr, rc = some (.ref g)) := by
      rcases e3 with e3 | e3
      · exact ⟨_, e3, .inl rfl⟩
      · exact ⟨_, e3, .inr ⟨g, rfl⟩⟩
    exact PySem.W.ksp_binT (T := "int") hF I.ok.mod.kin J rfl T.sf O.at_ O.fn e4 e5 (e1 _) (e2 _) nf_int (run_op F hr hb hx I (v2ri _ _ _) q)
/-- int op own -/
structure IntOpR (op : Operator) : Prop where
  sl : ∃ id B, PySem.Slot "int" (PySem.dunder op.info.2) id ∧ entryFor table id = some B ∧ (∀ i t x, argsOk id ⟨[.int i t, .ref x], []⟩) ∧ Declines B
  fills : fillsNumberSlot (.type "int") op.info.2 = pure true
theorem op_ownR {op : Operator} (T : Opc X.K C) (IO : IntOpR op) (O : OpR2 X.K C op.info.2 f) (F : FnOk X.prog X.w X.K X.mg X.base CX n f fd ps sp) (hr : Room n X.A) (hb : Binds X.K fd ps []) (hx : Passes CX X E) : OpR X (binaryOp op) (rOwnR C sp E) := by
  intro pins s σ H x y v u Q I rx ry h
  obtain ⟨⟨i, rfl⟩, ⟨a, dx, fs, rfl, ha⟩, q⟩ := h
  cases ry
  obtain ⟨t, rfl⟩ := rx
  obtain ⟨mA, J, _⟩ := ins_get I.hok ha
  obtain ⟨od, J, _⟩ := J.look
  obtain ⟨m, hF⟩ := I.fr
  obtain ⟨g, g1, g2⟩ := O.ll
  obtain ⟨id, B, s1, s2, s3, s4⟩ := IO.sl
  exact binR_K hF I.ok.mod.kin J rfl T.sf g1 g2 O.at_ O.fn T.nInt s1 IO.fills s2 (s3 _ _ _) s4 (run_op F hr hb hx I (v2ri _ _ _) q)

/-! ### comparisons -/
/-- the types of what an own instance is compared with -/
inductive Par (C : Addr) (H : Hp) : V → Prop where
  | int (i : Int) : Par C H (.int i)
  | str (z : Str) : Par C H (.str z)
  | non : Par C H .non
  | lst {a : Addr} {xs : List V} (e : H a = some (.lst xs)) : Par C H (.ref a)
  | tup {a : Addr} {xs : List V} (e : H a = some (.tup xs)) : Par C H (.ref a)
  | ins {a dx : Addr} {fs : List (Str × V)} (e : H a = some (.ins C dx fs)) : Par C H (.ref a)
theorem Par.look {H : Hp} {y : V} {u : Value} {pins : List (Addr × Obj)} {s : Shared} {σ : St} (I : Inv X pins σ H s) (p : Par C H y) (ry : RelV y u) : ∃ tb, PySem.W.Looks (model X.prog X.w) s.heap (typeOf u) tb ∧ PySem.W.notFirst X.K C tb = true := by
  cases p with
  | int i => obtain ⟨t, rfl⟩ := ry; exact ⟨_, .of_pure rfl, notFirstT nf_int⟩
  | str z => obtain ⟨t, rfl⟩ := ry; exact ⟨_, .of_pure rfl, notFirstT nf_str⟩
  | non => cases ry; exact ⟨_, .of_pure rfl, notFirstT nf_none⟩
  | @lst a xs e =>
    cases ry
    obtain ⟨_, its, n, _, e⟩ := (show ObjOk X.prog X.w H s.heap a (.lst xs) from I.hok a _ e)
    exact ⟨_, fun A Q E s k q => wpAny_typeOf_ref (k _ _ e) q, notFirstT nf_list⟩
  | @tup a xs e =>
    cases ry
    obtain ⟨_, its, _, o, e, hc, _⟩ := (show ObjOk X.prog X.w H s.heap a (.tup xs) from I.hok a _ e)
    exact ⟨.type "tuple", fun A Q E s k q => wpAny_typeOf_ref (k _ _ e) (by rw [hc]; exact q), notFirstT nf_tuple⟩
  | ins e =>
    cases ry
    obtain ⟨mB, J', _⟩ := ins_get I.hok e
    obtain ⟨od', J', _⟩ := J'.look
    exact ⟨_, J'.type, notFirstC⟩
/-- a op b by the class's own method -/
def rCmp (C : Addr) (sp : Sp) (E : XK) : R2 := fun x y H Q => IsC C x H ∧ Par C H y ∧ sp [x, y] H Q E
theorem op_cmp {op : CmpOp} (hop : ∀ v u : Value, compareOp op v u = richCompare op v u) (hs : PySem.W.findIn X.K (.ref C) (cmpInfo op).2.1 = some (some (.ref f))) (hf : PySem.W.isFn X.K (.ref f) = true)
    (F : FnOk X.prog X.w X.K X.mg X.base CX n f fd ps sp) (hr : Room n X.A) (hb : Binds X.K fd ps []) (hx : Passes CX X E) : OpR X (compareOp op) (rCmp C sp E) := by
  intro pins s σ H x y v u Q I rx ry h
  obtain ⟨⟨a, dx, fs, rfl, ha⟩, p, q⟩ := h
  obtain ⟨tb, lb, nf⟩ := p.look I ry
  cases rx
  obtain ⟨mA, J, _⟩ := ins_get I.hok ha
  obtain ⟨od, J, _⟩ := J.look
  rw [hop]
  exact cmpL_K hr.units0 I.kIn J lb nf (tryCmp_K I.kIn J hs hf (run_op F hr hb hx I (v2ry _ ry) q))
/-- k op a, by a's reflected method -/
def rCmpR (C : Addr) (sp : Sp) (E : XK) : R2 := fun x y H Q => (∃ i, x = .int i) ∧ IsC C y H ∧ sp [y, x] H Q E
structure IntCmp (op : CmpOp) : Prop where
  eq : ∀ v u : Value, compareOp op v u = richCompare op v u
  sl : ∃ id B, PySem.Slot "int" (cmpInfo op).2.1 id ∧ entryFor table id = some B ∧ (∀ i t x, argsOk id ⟨[.int i t, .ref x], []⟩) ∧ Declines B
theorem op_cmpR {op : CmpOp} (T : Opc X.K C) (IC : IntCmp op) (hs : PySem.W.findIn X.K (.ref C) (cmpInfo op).2.2 = some (some (.ref f))) (hf : PySem.W.isFn X.K (.ref f) = true)
    (F : FnOk X.prog X.w X.K X.mg X.base CX n f fd ps sp) (hr : Room n X.A) (hb : Binds X.K fd ps []) (hx : Passes CX X E) : OpR X (compareOp op) (rCmpR C sp E) := by
  intro pins s σ H x y v u Q I rx ry h
  obtain ⟨⟨i, rfl⟩, ⟨a, dx, fs, rfl, ha⟩, q⟩ := h
  cases ry
  obtain ⟨t, rfl⟩ := rx
  obtain ⟨mA, J, _⟩ := ins_get I.hok ha
  obtain ⟨od, J, _⟩ := J.look
  obtain ⟨id, B, s1, s2, s3, s4⟩ := IC.sl
  rw [IC.eq]
  exact cmpR_K hr.units0 I.kIn J rfl T.nInt s1 s2 (s3 _ _ _) s4 (tryCmp_K I.kIn J hs hf (run_op F hr hb hx I (v2ri _ _ _) q))
/-- the own == run a level deeper -/
theorem run_in1 (F : FnOk X.prog X.w X.K X.mg X.base CX n f fd ps sp) (hr : Room (n + 1) X.A) (hb : Binds X.K fd ps []) (hx : Passes CX X E) {pins : List (Addr × Obj)} {s : Shared} {σ : St} {H : Hp} {xs : List V} {us : List Value} {Q : VK}
    (I : Inv X pins σ H s) (r : Vals xs us) (h : sp xs H Q E) : wpAny (model X.prog X.w) X.A.in1 (call (.ref f) us) (EP X pins σ Q) X.xe s := by
  have e0 : Env0 X.prog X.w X.K X.mg X.base X.A.in1 X.stack s H := I.env0.in1
  have hl : us.length = ps.length := by rw [← r.length]; exact F.len _ _ _ _ h
  refine wpAny_call (codeAny_mono (F.run X.A.in1 X.stack s H ⟨us, []⟩ us xs _ E hr.in1 e0 (by
    have := hb s us I.kIn (by simpa using hl)
    simpa using this) r h) fun r s' hq => ?_)
  cases r with
  | error e => exact hx pins σ H s e s' I hq
  | ok fl =>
    cases fl with
    | ret w => exact I.after hq
    | next => exact False.elim hq
    | brk => exact False.elim hq
    | cont => exact False.elim hq
def rNeO (C : Addr) (sp : Sp) (E : XK) : R2 := fun x y H Q => IsC C x H ∧ Par C H y ∧ sp [x, y] H (fun v H' => ∃ k, v = .bl k ∧ Q (.bl (!k)) H') E
theorem ne_back {pins : List (Addr × Obj)} {σ : St} {Q : VK} {v : Value} {s' : Shared} (h : EP X pins σ (fun v H' => ∃ k, v = .bl k ∧ Q (.bl (!k)) H') v s') : ∃ k, v = .bool k ∧ EP X pins σ Q (.bool (!k)) s' := by
  obtain ⟨x, H', I, r, k, rfl, q⟩ := h
  cases r
  exact ⟨k, rfl, .bl (!k), H', I, rfl, q⟩
theorem op_neO (T : Opc X.K C) (hn : PySem.W.findIn X.K (.ref C) "__ne__" = some (some (.builtin "object.__ne__"))) (hs : PySem.W.findIn X.K (.ref C) "__eq__" = some (some (.ref f))) (hf : PySem.W.isFn X.K (.ref f) = true)
    (F : FnOk X.prog X.w X.K X.mg X.base CX n f fd ps sp) (hr : Room (n + 1) X.A) (hb : Binds X.K fd ps []) (hx : Passes CX X E) : OpR X (compareOp .NotEq) (rNeO C sp E) := by
  intro pins s σ H x y v u Q I rx ry h
  obtain ⟨⟨a, dx, fs, rfl, ha⟩, p, q⟩ := h
  obtain ⟨tb, lb, nf⟩ := p.look I ry
  cases rx
  obtain ⟨mA, J, _⟩ := ins_get I.hok ha
  obtain ⟨od, J, _⟩ := J.look
  show wpAny _ _ (richCompare .NotEq (.ref a) u) _ _ _
  exact cmpL_K hr.units0 I.kIn J lb nf (tryNe_K (hu_of hr) I.kIn J hn T.obj hs hf (wpAny_mono (run_in1 F hr hb hx I (v2ry _ ry) q) (fun v s' z => ne_back z) fun _ _ e => e))
def rNeOR (C : Addr) (sp : Sp) (E : XK) : R2 := fun x y H Q => (∃ i, x = .int i) ∧ IsC C y H ∧ sp [y, x] H (fun v H' => ∃ k, v = .bl k ∧ Q (.bl (!k)) H') E
theorem op_neOR (T : Opc X.K C) (IC : IntCmp .NotEq) (hn : PySem.W.findIn X.K (.ref C) "__ne__" = some (some (.builtin "object.__ne__"))) (hs : PySem.W.findIn X.K (.ref C) "__eq__" = some (some (.ref f))) (hf : PySem.W.isFn X.K (.ref f) = true)
    (F : FnOk X.prog X.w X.K X.mg X.base CX n f fd ps sp) (hr : Room (n + 1) X.A) (hb : Binds X.K fd ps []) (hx : Passes CX X E) : OpR X (compareOp .NotEq) (rNeOR C sp E) := by
  intro pins s σ H x y v u Q I rx ry h
  obtain ⟨⟨i, rfl⟩, ⟨a, dx, fs, rfl, ha⟩, q⟩ := h
  cases ry
  obtain ⟨t, rfl⟩ := rx
  obtain ⟨mA, J, _⟩ := ins_get I.hok ha
  obtain ⟨od, J, _⟩ := J.look
  obtain ⟨id, B, s1, s2, s3, s4⟩ := IC.sl
  show wpAny _ _ (richCompare .NotEq _ _) _ _ _
  exact cmpR_K hr.units0 I.kIn J rfl T.nInt s1 s2 (s3 _ _ _) s4 (tryNe_K (hu_of hr) I.kIn J hn T.obj hs hf (wpAny_mono (run_in1 F hr hb hx I (v2ri _ _ _) q) (fun v s' z => ne_back z) fun _ _ e => e))
end
end Mo

namespace Mo
open PySem PySem.W PySem.Calls PyProof.Rows
section
variable {prog : Program} {w : World} {M : Model} {A : Around} {E : Value → Shared → Prop} {s : Shared} {K : Frag} {x C L f : Addr} {h₀ : Heap} {m : Str → Option Value} {ox : Obj} {od : Option Obj}
/-- the class's mro is itself and object -/
def twoUp (K : Frag) (C : Addr) : Bool := (clsIn K C).any fun cd => cd.mro == [.ref C, .type "object"]
theorem noInpl {op : Operator} {h : Heap} {add : Bool} (X : K.In h) (h2 : twoUp K C = true) (hi : findIn K (.ref C) (dunderI op.info.2) = some none) (ho : ∀ M : Model, Looks M h (typeLookup (.type "object") (dunderI op.info.2)) none) : Looks M h (fillsInplaceSlot (.ref C) op.info.2 add) false := by
  intro A Q E s k q
  obtain ⟨cd, hc, hm0⟩ := any_some h2
  have hm : cd.mro = [.ref C, .type "object"] := beq_iff_eq.mp hm0
  have Lm : Looks M h (mroOf (.ref C)) cd.mro := (looks_clsIn X hc).andThen (f := fun cd => pure cd.mro) .now
  have Lm' := Lm.keeps k
  have L2 := (ho M).keeps k
  obtain ⟨hh, g, d, tt, os⟩ := s
  have X' : K.In hh := X.keeps k
  have L1 : Looks M hh (typeLookup (.ref C) (dunderI op.info.2)) none := looks_findIn X' hi
  unfold fillsInplaceSlot
  refine wpAny_bind (Lm'.at ?_)
  rw [hm, List.anyM_cons]
  refine wpAny_bind ?_
  repeat lk
  exact q
/-- what both of an own class's two-place operators come to: the left one's method -/
theorem bin1_same {nm : String} {b : Value} {Q : Value → Shared → Prop} (X : K.In s.heap) (I : InstAt s.heap x ox C od) (hb : Looks (model prog w) s.heap (typeOf b) (.ref C)) (hc : selfFirst K C = true)
    (hs : findIn K (.ref C) (PySem.dunder nm) = some (some (.ref f))) (hf : isFn K (.ref f) = true) (h : wpAny (model prog w) A (call (.ref f) [.ref x, b]) (W.CmpBack Q) E s) :
    wpAny (model prog w) A (binaryOp1 nm (.ref x) b) (fun r s' => ∃ v, r = some v ∧ Q v s') E s := by
  obtain ⟨cd, rest, hcd, hm⟩ := ksp_first hc
  have one := ksp_try X I hs hf h
  have Lf : Looks (model prog w) s.heap (fillsNumberSlot (.ref C) nm) true := fills_K X hcd hm hs
  unfold binaryOp1
  refine wpAny_bind (I.type.here (wpAny_bind (hb.here (wpAny_bind (Lf.here ?_)))))
  simp only [beq_self_eq_true, if_true]
  refine wpAny_bind (wpAny_pure ?_)
  simp only [Bool.and_false, Bool.false_eq_true, if_false, Bool.false_and]
  refine wpAny_bind (wpAny_pure ?_)
  simp only [Bool.false_eq_true, if_false]
  refine wpAny_bind (m := tryMethod (.ref x) _ b) (wpAny_mono one (fun r s' ⟨v, e, hq⟩ => ?_) fun _ _ e => e)
  subst e
  exact wpAny_pure ⟨v, rfl, hq⟩
theorem bin1_type {nm T : String} {b : Value} {fo ro rc : Option Value} {Q : Value → Shared → Prop} (X : K.In s.heap) (I : InstAt s.heap x ox C od) (hb : typeOf b = pure (.type T)) (hc : selfFirst K C = true)
    (hs : findIn K (.ref C) (PySem.dunder nm) = some (some (.ref f))) (hf : isFn K (.ref f) = true) (hr : findIn K (.ref C) (dunderR nm) = some rc) (hp : rc = none ∨ ∃ g : Addr, rc = some (.ref g))
    (h1 : findIn K (.type T) (PySem.dunder nm) = some fo) (h2 : findIn K (.type T) (dunderR nm) = some ro) (hsub : subIn K (.type T) (.ref C) = some false)
    (h : wpAny (model prog w) A (call (.ref f) [.ref x, b]) (W.CmpBack Q) E s) : wpAny (model prog w) A (binaryOp1 nm (.ref x) b) (fun r s' => ∃ v, r = some v ∧ Q v s') E s := by
  obtain ⟨cd, rest, hcd, hm⟩ := ksp_first hc
  have one := ksp_try X I hs hf h
  obtain ⟨hh, g, d, tk, os⟩ := s
  have M1 : Looks (model prog w) hh (typeOf (.ref x)) (.ref C) := I.type
  have M2 : Looks (model prog w) hh (typeOf b) (.type T) := Looks.of_pure hb
  have M3 : Looks (model prog w) hh (fillsNumberSlot (.ref C) nm) true := fills_K X hcd hm hs
  have M4 : Looks (model prog w) hh (fillsNumberSlot (.type T) nm) ((fo.isSome && !isSeqSlot fo) || (ro.isSome && !isSeqSlot ro)) := ksp_fillsT X h1 h2
  have M5 : Looks (model prog w) hh (isSubtype (.type T) (.ref C)) false := looks_subIn X hsub
  have M6 : Looks (model prog w) hh (numberSlotInPython (.ref C) nm) true := ksp_inPy X hs hr hp
  have M7 : Looks (model prog w) hh (numberSlotInPython (.type T) nm) false := Looks.of_pure rfl
  have M8 : Looks (model prog w) hh (typeLookup (.type T) (dunderR nm)) ro := looks_findIn X h2
  generalize ((fo.isSome && !isSeqSlot fo) || (ro.isSome && !isSeqSlot ro)) = right at M4
  have hne : (Value.ref C == Value.type T) = false := Bool.eq_false_iff.mpr fun q => by cases beq_iff_eq.mp q
  unfold binaryOp1
  refine wpAny_bind (M1.at (wpAny_bind (M2.at (wpAny_bind (M3.at ?_)))))
  simp only [hne, Bool.false_eq_true, if_false]
  cases right <;> (ksp_lk; refine wpAny_mono one (fun r s' hr' => ?_) fun _ _ e => e; obtain ⟨v, rfl, hq⟩ := hr'; ksp_lk; exact ⟨v, rfl, hq⟩)
theorem inpl_K {op : Operator} {b : Value} {Q : Value → Shared → Prop} (X : K.In s.heap) (I : InstAt s.heap x ox C od) (h2 : twoUp K C = true) (hi : findIn K (.ref C) (dunderI op.info.2) = some none) (ho : ∀ (M : Model) (h : Heap), Looks M h (typeLookup (.type "object") (dunderI op.info.2)) none)
    (h : wpAny (model prog w) A (binaryOp1 op.info.2 (.ref x) b) (fun r s' => ∃ v, r = some v ∧ Q v s') E s) : wpAny (model prog w) A (inplaceOp op (.ref x) b) Q E s := by
  have N : Looks (model prog w) s.heap (fillsInplaceSlot (.ref C) op.info.2 (op == .Add)) false := noInpl X h2 hi fun M => ho M _
  unfold inplaceOp
  refine wpAny_holding (wpAny_bind (I.type.here (wpAny_bind (N.here ?_))))
  rw [if_neg Bool.false_ne_true]
  refine wpAny_bind (wpAny_mono h (fun r s' hr' => ?_) fun _ _ e => e)
  obtain ⟨v, rfl, hq⟩ := hr'
  exact wpAny_pure hq
end
open L2
section
variable {X : Cx} {CX : CXT} {n k : Nat} {f f₁ C : Addr} {fd : FuncData} {ps : List Str} {sp : Sp} {E : XK}
/-- a op= b, the class without the in-place method -/
theorem iop_own {op : Operator} (T : Opc X.K C) (h2 : twoUp X.K C = true) (hi : PySem.W.findIn X.K (.ref C) (dunderI op.info.2) = some none) (ho : typeLookup (.type "object") (dunderI op.info.2) = pure none)
    (IO : IntOp op) (O : Op2 X.K C op.info.2 f) (F : FnOk X.prog X.w X.K X.mg X.base CX n f fd ps sp) (hr : Room n X.A) (hb : Binds X.K fd ps []) (hx : Passes CX X E) : OpR X (inplaceOp op) (rOwn C sp E) := by
  intro pins s σ H x y v u Q I rx ry h
  obtain ⟨⟨a, dx, fs, rfl, ha⟩, hy, q⟩ := h
  cases rx
  obtain ⟨mA, J, _⟩ := ins_get I.hok ha
  obtain ⟨od, J, _⟩ := J.look
  refine inpl_K I.kIn J h2 hi (fun M h => Looks.of_pure ho) ?_
  rcases hy with ⟨b, dy, gs, rfl, hb'⟩ | ⟨i, rfl⟩
  · cases ry
    obtain ⟨mB, J', _⟩ := ins_get I.hok hb'
    obtain ⟨od', J', _⟩ := J'.look
    exact bin1_same I.kIn J J'.type T.sf O.at_ O.fn (run_op F hr hb hx I (v2rr _ _) q)
  · obtain ⟨t, rfl⟩ := ry
    obtain ⟨fo, ro, e1, e2⟩ := IO.fo
    obtain ⟨g, e3⟩ := O.rr
    obtain ⟨rc, e4, e5⟩ : ∃ rc, PySem.W.findIn X.K (.ref C) (PySem.dunderR op.info.2) = some rc ∧ (rc = none ∨ ∃ g : Addr, rc = some (.ref g)) := by
      rcases e3 with e3 | e3
      · exact ⟨_, e3, .inl rfl⟩
      · exact ⟨_, e3, .inr ⟨g, rfl⟩⟩
    exact bin1_type (T := "int") I.kIn J rfl T.sf O.at_ O.fn e4 e5 (e1 _) (e2 _) nf_int (run_op F hr hb hx I (v2ri _ _ _) q)
/-! the operators' facts of int -/
theorem dec_fdiv : Declines Builtin.«int.__floordiv__» := by
  intro M A E s i t x ox Q hx hd h
  obtain ⟨hp, g', d, tk, os⟩ := s
  unfold Builtin.«int.__floordiv__» Builtin.Int.intBinary
  wp_walk using wpAny_loadPart' hx
  rw [hd]
  wp_walk using wpAny_loadPart' hx
  rw [hd]
  wp_walk
  exact h
theorem io_add : IntOp .Add := ⟨some (.builtin "int.__add__"), some (.builtin "int.__radd__"), fun K => (show PySem.fastLookup "int" (PySem.dunder "add") = _ by decide +kernel), fun K => (show PySem.fastLookup "int" (PySem.dunderR "add") = _ by decide +kernel)⟩
theorem ir_add : IntOpR .Add := ⟨⟨_, _, PySem.F.slot_int_add, PySem.F.entry_int_add, fun _ _ _ => PySem.F.args_int_add_2 _ _, dec_bin⟩, PySem.F.fills_int_add⟩
theorem io_sub : IntOp .Sub := ⟨some (.builtin "int.__sub__"), some (.builtin "int.__rsub__"), fun K => (show PySem.fastLookup "int" (PySem.dunder "sub") = _ by decide +kernel), fun K => (show PySem.fastLookup "int" (PySem.dunderR "sub") = _ by decide +kernel)⟩
theorem ir_sub : IntOpR .Sub := ⟨⟨_, _, PySem.F.slot_int_sub, PySem.F.entry_int_sub, fun _ _ _ => PySem.F.args_int_sub_2 _ _, dec_bin⟩, PySem.F.fills_int_sub⟩
theorem io_mul : IntOp .Mult := ⟨some (.builtin "int.__mul__"), some (.builtin "int.__rmul__"), fun K => (show PySem.fastLookup "int" (PySem.dunder "mul") = _ by decide +kernel), fun K => (show PySem.fastLookup "int" (PySem.dunderR "mul") = _ by decide +kernel)⟩
theorem ir_mul : IntOpR .Mult := ⟨⟨_, _, PySem.F.slot_int_mul, PySem.F.entry_int_mul, fun _ _ _ => PySem.F.args_int_mul_2 _ _, dec_bin⟩, PySem.F.fills_int_mul⟩
theorem io_floordiv : IntOp .FloorDiv := ⟨some (.builtin "int.__floordiv__"), some (.builtin "int.__rfloordiv__"), fun K => (show PySem.fastLookup "int" (PySem.dunder "floordiv") = _ by decide +kernel), fun K => (show PySem.fastLookup "int" (PySem.dunderR "floordiv") = _ by decide +kernel)⟩
theorem ir_floordiv : IntOpR .FloorDiv := ⟨⟨_, _, PySem.F.slot_int_floordiv, PySem.F.entry_int_floordiv, fun _ _ _ => PySem.F.args_int_floordiv_2 _ _, dec_fdiv⟩, PySem.F.fills_int_floordiv⟩
theorem io_mod : IntOp .Mod := ⟨some (.builtin "int.__mod__"), some (.builtin "int.__rmod__"), fun K => (show PySem.fastLookup "int" (PySem.dunder "mod") = _ by decide +kernel), fun K => (show PySem.fastLookup "int" (PySem.dunderR "mod") = _ by decide +kernel)⟩
theorem ir_mod : IntOpR .Mod := ⟨⟨_, _, PySem.F.slot_int_mod, PySem.F.entry_int_mod, fun _ _ _ => PySem.F.args_int_mod_2 _ _, dec_bin⟩, PySem.F.fills_int_mod⟩
theorem ic_lt : IntCmp .Lt := ⟨fun _ _ => rfl, ⟨_, _, PySem.F.slot_int_lt, PySem.F.entry_int_lt, fun _ _ _ => PySem.F.args_int_lt_2 _ _, dec_bin⟩⟩
theorem ic_le : IntCmp .LtE := ⟨fun _ _ => rfl, ⟨_, _, PySem.F.slot_int_le, PySem.F.entry_int_le, fun _ _ _ => PySem.F.args_int_le_2 _ _, dec_bin⟩⟩
theorem ic_gt : IntCmp .Gt := ⟨fun _ _ => rfl, ⟨_, _, PySem.F.slot_int_gt, PySem.F.entry_int_gt, fun _ _ _ => PySem.F.args_int_gt_2 _ _, dec_bin⟩⟩
theorem ic_ge : IntCmp .GtE := ⟨fun _ _ => rfl, ⟨_, _, PySem.F.slot_int_ge, PySem.F.entry_int_ge, fun _ _ _ => PySem.F.args_int_ge_2 _ _, dec_bin⟩⟩
theorem ic_eq : IntCmp .Eq := ⟨fun _ _ => rfl, ⟨_, _, PySem.F.slot_int_eq, PySem.F.entry_int_eq, fun _ _ _ => PySem.F.args_int_eq_2 _ _, dec_bin⟩⟩
theorem ic_ne : IntCmp .NotEq := ⟨fun _ _ => rfl, ⟨_, _, PySem.F.slot_int_ne, PySem.F.entry_int_ne, fun _ _ _ => PySem.F.args_int_ne_2 _ _, dec_bin⟩⟩
end
end Mo

namespace Mo
open PySem L2
/-! ### fractions in lowest terms -/
def Red (t b : Int) : Prop := 0 < b ∧ Int.gcd t b = 1
structure Norm (n d t b : Int) : Prop where
  pos : 0 < b
  gcd : Int.gcd t b = 1
  eq : t * d = n * b
  tle : t.natAbs ≤ n.natAbs
  ble : b.natAbs ≤ d.natAbs
theorem Norm.red {n d t b : Int} (h : Norm n d t b) : Red t b := ⟨h.pos, h.gcd⟩
def sg (n d : Int) : Int := if 0 < d then ((Nat.gcd n.natAbs d.natAbs : Nat) : Int) else -((Nat.gcd n.natAbs d.natAbs : Nat) : Int)
theorem sg_ne {n d : Int} (hd : d ≠ 0) : sg n d ≠ 0 := by
  have hg : 0 < Nat.gcd n.natAbs d.natAbs := Nat.gcd_pos_of_pos_right _ (by omega)
  unfold sg
  split <;> omega
theorem sg_le {n d : Int} (hd : d ≠ 0) : (sg n d).natAbs ≤ d.natAbs := by
  have hg : Nat.gcd n.natAbs d.natAbs ≤ d.natAbs := Nat.gcd_le_right _ (by omega)
  unfold sg
  split <;> omega
theorem norm_mk {n d : Int} (hd : d ≠ 0) : Norm n d (n.fdiv (sg n d)) (d.fdiv (sg n d)) := by
  have hg : 0 < Nat.gcd n.natAbs d.natAbs := Nat.gcd_pos_of_pos_right _ (by omega)
  have hne := sg_ne (n := n) hd
  have habs : (sg n d).natAbs = Int.gcd n d := by
    show _ = Nat.gcd n.natAbs d.natAbs
    unfold sg
    split <;> omega
  have hs1 : 0 < d → 0 < sg n d := fun h0 => by unfold sg; rw [if_pos h0]; omega
  have hs2 : d < 0 → sg n d < 0 := fun h0 => by unfold sg; rw [if_neg (by omega)]; omega
  have hn : sg n d ∣ n := by
    rw [← Int.natAbs_dvd, habs]
    exact Int.gcd_dvd_left n d
  have hdd : sg n d ∣ d := by
    rw [← Int.natAbs_dvd, habs]
    exact Int.gcd_dvd_right n d
  generalize sg n d = g at *
  obtain ⟨n', en⟩ := hn
  obtain ⟨d', ed⟩ := hdd
  subst en
  subst ed
  rw [Int.mul_fdiv_cancel_left _ hne, Int.mul_fdiv_cancel_left _ hne]
  have hp : 0 < g.natAbs := by omega
  have hgg : Int.gcd n' d' = 1 := by
    rw [Int.gcd_mul_left] at habs
    exact Nat.eq_of_mul_eq_mul_left hp (by rw [Nat.mul_one]; exact habs.symm)
  refine ⟨?_, hgg, ?_, ?_, ?_⟩
  · by_cases h0 : 0 < g * d'
    · exact Int.lt_of_mul_lt_mul_left (a := g) (by rw [Int.mul_zero]; exact h0) (Int.le_of_lt (hs1 h0))
    · have h1 : g * d' < 0 := by omega
      have h2 : 0 < (-g) * d' := by rw [Int.neg_mul]; omega
      exact Int.lt_of_mul_lt_mul_left (a := -g) (by rw [Int.mul_zero]; exact h2) (by have := hs2 h1; omega)
  · rw [Int.mul_left_comm, Int.mul_assoc]
  · rw [Int.natAbs_mul]
    exact Nat.le_mul_of_pos_left _ hp
  · rw [Int.natAbs_mul]
    exact Nat.le_mul_of_pos_left _ hp
theorem red_dvd {t b t' b' : Int} (h : Int.gcd t b = 1) (e : t * b' = t' * b) : b ∣ b' := by
  have h1 : b.natAbs ∣ t.natAbs * b'.natAbs := by
    rw [← Int.natAbs_mul, e, Int.natAbs_mul]
    exact Nat.dvd_mul_left _ _
  have h2 : Nat.Coprime b.natAbs t.natAbs := by
    show Nat.gcd b.natAbs t.natAbs = 1
    rw [Nat.gcd_comm]
    exact h
  exact Int.natAbs_dvd_natAbs.mp (h2.dvd_of_dvd_mul_left h1)
theorem red_eq {t b t' b' : Int} (h : Red t b) (h' : Red t' b') (e : t * b' = t' * b) : t = t' ∧ b = b' := by
  have d1 := red_dvd h.2 e
  have d2 := red_dvd h'.2 e.symm
  have hb : b = b' := Int.dvd_antisymm (Int.le_of_lt h.1) (Int.le_of_lt h'.1) d1 d2
  subst hb
  exact ⟨Int.eq_of_mul_eq_mul_right (by have := h.1; omega) e, rfl⟩
theorem red_iff {t b t' b' : Int} (h : Red t b) (h' : Red t' b') : (t = t' ∧ b = b') ↔ t * b' = t' * b :=
  ⟨fun ⟨e1, e2⟩ => by rw [e1, e2], red_eq h h'⟩
/-! ### sizes -/
def Sm (k : Nat) (n : Int) : Prop := n.natAbs < 2 ^ k
theorem Sm.mono {k j : Nat} {n : Int} (h : Sm k n) (hk : k ≤ j) : Sm j n := Nat.lt_of_lt_of_le h (Nat.pow_le_pow_right (by decide) hk)
theorem Sm.mul {k j : Nat} {n m : Int} (h : Sm k n) (h' : Sm j m) : Sm (k + j) (n * m) := wide_lt h h'
theorem Sm.add {k : Nat} {n m : Int} (h : Sm k n) (h' : Sm k m) : Sm (k + 1) (n + m) := by
  unfold Sm at *
  rw [Nat.pow_succ]
  omega
theorem Sm.sub {k : Nat} {n m : Int} (h : Sm k n) (h' : Sm k m) : Sm (k + 1) (n - m) := by
  unfold Sm at *
  rw [Nat.pow_succ]
  omega
theorem Sm.neg {k : Nat} {n : Int} (h : Sm k n) : Sm k (-n) := by
  unfold Sm at *
  omega
theorem Sm.le {k : Nat} {n m : Int} (h : Sm k m) (h' : n.natAbs ≤ m.natAbs) : Sm k n := Nat.lt_of_le_of_lt h' h
theorem Sm.of {k : Nat} {n m : Int} (h : -m ≤ n ∧ n ≤ m) (hm : m.natAbs < 2 ^ k) : Sm k n := Nat.lt_of_le_of_lt (by omega) hm
theorem Sm.cmul {k j : Nat} {n m : Int} (h : Sm k n) (h' : Sm j m) (h0 : 0 < k := by decide) (h1 : 0 < j := by decide) (hk : k + j ≤ 1000000 := by decide) : CMulW n m := wide_mul h h' h0 h1 hk
/-- // by a divisor that is not 0, below 2 ^ 9000 -/
def CDivNW (_ j : Int) : Prop := j ≠ 0 ∧ j.natAbs.log2 < 9000
theorem op_fdivNW {X : Cx} : OpR X (binaryOp .FloorDiv) (rI CDivNW fun i j => .int (i.fdiv j)) := opI fun i j _ _ _ _ _ hc q => PyProof.Rows.floordiv_int hc.1 q (.inl (PyProof.noPylong_of_log2 hc.2))
theorem Sm.cdiv {k : Nat} {i j : Int} (h : Sm k j) (h0 : j ≠ 0) (h1 : 0 < k := by decide) (hk : k ≤ 9000 := by decide) : CDivNW i j := ⟨h0, Nat.lt_of_lt_of_le (PySem.Flt.log2_lt_of h1 h) hk⟩
end Mo

namespace Mo
open PySem L2
open Evl (Ex)
/-! ### a moment as an object -/
def mf (t b : Int) : List (Str × V) := putF "bottom" (.int b) (putF "top" (.int t) [])
theorem ntb : ¬ (("top" : Str) = "bottom") := by decide +kernel
theorem mf_eq (t b : Int) : mf t b = ([("top", V.int t), ("bottom", V.int b)] : List (Str × V)) := by
  show (if ("top" : Str) = "bottom" then [(("top" : Str), V.int b)] else (("top" : Str), V.int t) :: putF "bottom" (V.int b) []) = ([("top", V.int t), ("bottom", V.int b)] : List (Str × V))
  rw [if_neg ntb]
  all_goals rfl
theorem mf_top (t b : Int) : (mf t b).lookup ("top" : Str) = some (.int t) := by
  unfold mf
  rw [lookup_putF, if_neg ntb, lookup_putF, if_pos rfl]
theorem mf_bottom (t b : Int) : (mf t b).lookup ("bottom" : Str) = some (.int b) := by
  unfold mf
  rw [lookup_putF, if_pos rfl]
theorem mf_no (t b : Int) {m : Str} (h1 : ¬ m = "bottom") (h2 : ¬ m = "top") : (mf t b).lookup m = none := by
  unfold mf
  rw [lookup_putF, if_neg h1, lookup_putF, if_neg h2]
  all_goals rfl
def Mo (C : Addr) (t b : Int) (v : V) (H : Hp) : Prop := ∃ a dx, v = .ref a ∧ H a = some (.ins C dx (mf t b))
theorem Mo.ex {C : Addr} {t b : Int} {v : V} {H H' : Hp} (h : Mo C t b v H) (e : Ex H H') : Mo C t b v H' := by
  obtain ⟨a, dx, r, q⟩ := h
  exact ⟨a, dx, r, e _ _ q⟩
theorem Mo.isC {C : Addr} {t b : Int} {v : V} {H : Hp} (h : Mo C t b v H) : IsC C v H := by
  obtain ⟨a, dx, r, q⟩ := h
  exact ⟨a, dx, _, r, q⟩
theorem Mo.par {C : Addr} {t b : Int} {v : V} {H : Hp} (h : Mo C t b v H) : Par C H v := by
  obtain ⟨a, dx, rfl, q⟩ := h
  exact .ins q
/-- the fraction of a time: a moment, or an int -/
def Tm (C : Addr) (t b : Int) (v : V) (H : Hp) : Prop := Mo C t b v H ∨ (v = .int t ∧ b = 1)
theorem Tm.ex {C : Addr} {t b : Int} {v : V} {H H' : Hp} (h : Tm C t b v H) (e : Ex H H') : Tm C t b v H' := h.elim (fun h => .inl (h.ex e)) .inr
theorem Tm.par {C : Addr} {t b : Int} {v : V} {H : Hp} (h : Tm C t b v H) : Par C H v := by
  rcases h with h | ⟨rfl, _⟩
  · exact h.par
  · exact .int _
theorem Tm.op {C : Addr} {t b : Int} {v : V} {H : Hp} (h : Tm C t b v H) : IsC C v H ∨ ∃ i, v = .int i := by
  rcases h with h | ⟨rfl, _⟩
  · exact .inl h.isC
  · exact .inr ⟨_, rfl⟩
/-! ### a def, a method, a class as the top has left them -/
section
variable (P : Program) (w : World) (K : PySem.W.Frag) (mg : Str → Option Value) (base : Heap)
/-- a def by its name, that keeps sp -/
def Ok (CX : CXT) (k : Nat) (x : Str) (ps : List Str) (sp : Sp) : Prop := ∃ f fd, FnOk P w K mg base CX k f fd ps sp ∧ mg x = some (.ref f) ∧ PySem.W.keepIn K (.ref f) = true ∧ Binds K fd ps []
/-- a method of the class at C -/
def OkM (C : Addr) (CX : CXT) (k : Nat) (x : Str) (ps : List Str) (sp : Sp) : Prop := ∃ f fd, FnOk P w K mg base CX k f fd ps sp ∧ PySem.W.findIn K (.ref C) x = some (some (.ref f)) ∧ PySem.W.isFn K (.ref f) = true ∧ PySem.W.keepIn K (.ref f) = true ∧ Binds K fd ps []
end
/-! ### promises -/
def spCell (K : PySem.W.Frag) : Sp := fun vs H Q _ => ∃ (l : Addr) (ns : List Int) (j : Int), vs = [.ref l, .int j] ∧ SqL K H l (ns.map V.int) ∧ 0 ≤ j ∧ ns.length ≤ 63 ∧ ∀ z : Int, Q (.int z) H
def spRow (K : PySem.W.Frag) : Sp := fun vs H Q _ => ∃ (c : Int) (l : Addr) (zs : List Int), vs = [.int c, .ref l] ∧ SqL K H l (zs.map V.int) ∧ zs.length ≤ 40 ∧ (∀ z ∈ zs, 0 < z ∧ z < 1073741824) ∧
  ∀ (p : Addr) (ys : List Int) (H' : Hp), Ex H H' → H' p = some (.lst (ys.map V.int)) → ys.length = zs.length → (∀ (i : Nat) (y z : Int), ys[i]? = some y → zs[i]? = some z → 0 ≤ y ∧ y < z) → Q (.ref p) H'
def spWhole : Sp := fun vs H Q _ => ∃ c m : Int, vs = [.int c, .int m] ∧ 0 < m ∧ Sm 1000 m ∧ ∀ z : Int, -m ≤ z → z ≤ m → Q (.int z) H
def spRatio : Sp := fun vs H Q _ => ∃ a b m : Int, vs = [.int a, .int b, .int m] ∧ 0 < m ∧ Sm 1000 m ∧ ∀ (t d : Int) (p : Addr) (H' : Hp), Ex H H' → H' p = some (.tup [.int t, .int d]) → -m ≤ t → t ≤ m → -m ≤ d → d ≤ m → d ≠ 0 → Q (.ref p) H'
def spGcd : Sp := fun vs H Q _ => ∃ a b : Int, vs = [.int a, .int b] ∧ Sm 8000 a ∧ Sm 8000 b ∧ Q (.int ((Int.gcd a b : Nat) : Int)) H
def spIsInt : Sp := fun vs H Q _ => ∃ a : Int, vs = [.int a] ∧ ∀ H', Ex H H' → Q (.bl true) H'
def spHolds (C : Addr) : Sp := fun vs H Q _ => ∃ (x : V) (t b n d : Int), vs = [x, .int n, .int d] ∧ Mo C t b x H ∧ Red t b ∧ t * d = n * b ∧ Sm 4000 t ∧ Sm 4000 b ∧ Sm 4000 n ∧ Sm 4000 d ∧ ∀ H', Ex H H' → Q (.bl true) H'
/-- Moment(n, d); CN: NoMoment -/
def spInit (C CN : Addr) : Sp := fun vs H Q E => ∃ (p dx : Addr) (n d : Int), vs = [.ref p, .int n, .int d] ∧ H p = some (.ins C dx []) ∧ Sm 8000 n ∧ Sm 8000 d ∧
  (d = 0 → ∀ (dd : Addr) (fs : List (Str × V)) (H' : Hp), H dd = none → fs.lookup ("top" : Str) = some (.int n) → fs.lookup ("bottom" : Str) = some (.int 0) → H' dd = some (.xd fs) → (∀ q o, H q = some o → H' q = some o) → E (.ref CN) (some dd) H') ∧
  (d ≠ 0 → ∀ t b : Int, Norm n d t b → Q .non (upd H p (.ins C dx (mf t b))))
end Mo
namespace Mo
open PySem L2
open Evl (Ex)
section
variable (P : Program) (w : World) (K : PySem.W.Frag) (mg : Str → Option Value) (base : Heap)
def psIn : List Str := ["self", "top", "bottom"]
/-- the class's maker -/
def OkI (C CN : Addr) : Prop := ∃ f fd ds, FnOk P w K mg base (L2.CX P w) 4 f fd psIn (spInit C CN) ∧ Mk K C f ∧ Binds K fd psIn [] ∧ Vals [.int 1] ds ∧ Binds K fd psIn ds
end
theorem made_ok {C : Addr} {H : Hp} {x dx : Addr} (t b : Int) (n1 : H x = none) (n2 : H dx = none) (h : dx ≠ x) :
    Ex H (upd (upd (upd H dx (.own x)) x (.ins C dx [])) x (.ins C dx (mf t b))) ∧ Mo C t b (.ref x) (upd (upd (upd H dx (.own x)) x (.ins C dx [])) x (.ins C dx (mf t b))) := by
  refine ⟨fun a o e => ?_, x, dx, rfl, upd_same⟩
  have q1 : a ≠ x := ne_of_none e n1
  have q2 : a ≠ dx := ne_of_none e n2
  rw [upd_ne q1, upd_ne q1, upd_ne q2]
  exact e
theorem mk_rd {C CN : Addr} {n d : Int} {H : Hp} {Q : VK} {E : XK} (sn : Sm 8000 n) (sd : Sm 8000 d) (hd : d ≠ 0) (k : ∀ (t b : Int) (v : V) (H' : Hp), Norm n d t b → Ex H H' → Mo C t b v H' → Q v H') :
    ∀ x dx, H x = none → H dx = none → dx ≠ x → spInit C CN (.ref x :: ([.int n, .int d] ++ [])) (upd (upd H dx (.own x)) x (.ins C dx [])) (fun v H2 => v = .non ∧ Q (.ref x) H2) E :=
  fun x dx n1 n2 n3 => ⟨x, dx, n, d, rfl, upd_same, sn, sd, fun z => absurd z hd, fun _ t b N => ⟨rfl, k t b _ _ N (made_ok t b n1 n2 n3).1 (made_ok t b n1 n2 n3).2⟩⟩
theorem mk_rd1 {C CN : Addr} {n : Int} {H : Hp} {Q : VK} {E : XK} (sn : Sm 8000 n) (k : ∀ (v : V) (H' : Hp), Ex H H' → Mo C n 1 v H' → Q v H') :
    ∀ x dx, H x = none → H dx = none → dx ≠ x → spInit C CN (.ref x :: ([.int n] ++ [.int 1])) (upd (upd H dx (.own x)) x (.ins C dx [])) (fun v H2 => v = .non ∧ Q (.ref x) H2) E :=
  fun x dx n1 n2 n3 => ⟨x, dx, n, 1, rfl, upd_same, sn, (by show (1 : Int).natAbs < 2 ^ 8000; exact Nat.lt_of_lt_of_le (by decide : (1 : Int).natAbs < 2 ^ 1) (Nat.pow_le_pow_right (by decide) (by decide))), fun z => absurd z (by decide), fun _ t b N => by
    have b1 : b = 1 := by
      have := N.pos
      have := N.ble
      omega
    have t1 : t = n := by
      have := N.eq
      rw [b1] at this
      omega
    rw [b1, t1]
    exact ⟨rfl, k _ _ (made_ok n 1 n1 n2 n3).1 (made_ok n 1 n1 n2 n3).2⟩⟩
def spIsTime (C : Addr) : Sp := fun vs H Q _ => ∃ (x : V) (t b : Int), vs = [x] ∧ Tm C t b x H ∧ ∀ H', Ex H H' → Q (.bl true) H'
def spAsM (C : Addr) : Sp := fun vs H Q _ => ∃ (x : V) (t b : Int), vs = [x] ∧ Tm C t b x H ∧ Sm 8000 t ∧ ∀ (v : V) (H' : Hp), Ex H H' → Mo C t b v H' → Q v H'
/-- a two-place operator: the exact fraction num / den, in lowest terms -/
def spBin (C : Addr) (num den : Int → Int → Int → Int → Int) : Sp := fun vs H Q _ => ∃ (x y : V) (t b t' b' : Int), vs = [x, y] ∧ Mo C t b x H ∧ Tm C t' b' y H ∧ 0 < b ∧ 0 < b' ∧ Sm 1900 t ∧ Sm 1900 b ∧ Sm 1900 t' ∧ Sm 1900 b' ∧
  ∀ (t2 b2 : Int) (v : V) (H' : Hp), Norm (num t b t' b') (den t b t' b') t2 b2 → Ex H H' → Mo C t2 b2 v H' → Q v H'
/-- its reflected twin: self the right operand -/
def spBinR (C : Addr) (num den : Int → Int → Int → Int → Int) : Sp := fun vs H Q _ => ∃ (x y : V) (t b t' b' : Int), vs = [x, y] ∧ Mo C t b x H ∧ Tm C t' b' y H ∧ 0 < b ∧ 0 < b' ∧ Sm 1900 t ∧ Sm 1900 b ∧ Sm 1900 t' ∧ Sm 1900 b' ∧
  ∀ (t2 b2 : Int) (v : V) (H' : Hp), Norm (num t' b' t b) (den t' b' t b) t2 b2 → Ex H H' → Mo C t2 b2 v H' → Q v H'
def nAdd (t b t' b' : Int) : Int := t * b' + t' * b
def nSub (t b t' b' : Int) : Int := t * b' - t' * b
def nMul (t _ t' _ : Int) : Int := t * t'
def dAll (_ b _ b' : Int) : Int := b * b'
end Mo
namespace Mo
open PySem L2
theorem sml {n : Int} {k : Nat} (h : n.natAbs < 2 ^ k) : Sm k n := h
theorem Sm.ofR {k : Nat} {n m : Int} (h1 : -m ≤ n) (h2 : n ≤ m) (hm : Sm k m) : Sm k n := Sm.of ⟨h1, h2⟩ hm
/-! exact arithmetic of fractions n / d, told by t / b -/
theorem add_eq {t2 b2 ta ba tb bb n1 d1 n2 d2 : Int} (N : Norm (nAdd ta ba tb bb) (dAll ta ba tb bb) t2 b2) (h1 : ta * d1 = n1 * ba) (h2 : tb * d2 = n2 * bb) (p1 : 0 < ba) (p2 : 0 < bb) : t2 * (d1 * d2) = (n1 * d2 + n2 * d1) * b2 := by
  have h : t2 * (ba * bb) = (ta * bb + tb * ba) * b2 := N.eq
  exact Int.eq_of_mul_eq_mul_left (Int.ne_of_gt (Int.mul_pos p1 p2)) (by grind)
theorem sub_eq {t2 b2 ta ba tb bb n1 d1 n2 d2 : Int} (N : Norm (nSub ta ba tb bb) (dAll ta ba tb bb) t2 b2) (h1 : ta * d1 = n1 * ba) (h2 : tb * d2 = n2 * bb) (p1 : 0 < ba) (p2 : 0 < bb) : t2 * (d1 * d2) = (n1 * d2 - n2 * d1) * b2 := by
  have h : t2 * (ba * bb) = (ta * bb - tb * ba) * b2 := N.eq
  exact Int.eq_of_mul_eq_mul_left (Int.ne_of_gt (Int.mul_pos p1 p2)) (by grind)
theorem mul_eq {t2 b2 ta ba tb bb n1 d1 n2 d2 : Int} (N : Norm (nMul ta ba tb bb) (dAll ta ba tb bb) t2 b2) (h1 : ta * d1 = n1 * ba) (h2 : tb * d2 = n2 * bb) (p1 : 0 < ba) (p2 : 0 < bb) : t2 * (d1 * d2) = (n1 * n2) * b2 := by
  have h : t2 * (ba * bb) = (ta * tb) * b2 := N.eq
  exact Int.eq_of_mul_eq_mul_left (Int.ne_of_gt (Int.mul_pos p1 p2)) (by grind)
theorem Norm.st {n d t b : Int} {k : Nat} (N : Norm n d t b) (h : Sm k n) : Sm k t := h.le N.tle
theorem Norm.sb {n d t b : Int} {k : Nat} (N : Norm n d t b) (h : Sm k d) : Sm k b := h.le N.ble
def spLaw (K : PySem.W.Frag) : Sp := fun vs H Q _ => ∃ (a : Addr) (ns : List Int), vs = [.ref a] ∧ SqL K H a (ns.map V.int) ∧ ns.length ≤ 63 ∧ ∀ H', Q (.bl true) H'
theorem _root_.L2.SqT.ex' {K : PySem.W.Frag} {H H' : Hp} {a : Addr} {xs : List V} (h : SqT K H a xs) (e : Evl.Ex H H') : SqT K H' a xs := Evl.ex_t e h
theorem _root_.L2.SqL.ex' {K : PySem.W.Frag} {H H' : Hp} {a : Addr} {xs : List V} (h : SqL K H a xs) (e : Evl.Ex H H') : SqL K H' a xs := Evl.ex_l e h
end Mo
namespace Mo
theorem eq_of {t a b n a' n' : Int} (z : t * a = n * b) (ha : a' = a := by first | rfl | exact Int.mul_comm _ _ | (simp only [Int.mul_one, Int.one_mul]; done))
    (hn : n' = n := by first | rfl | exact Int.mul_comm _ _ | omega | (simp only [Int.mul_one, Int.one_mul]; done) | (simp only [Int.mul_one, Int.one_mul]; omega)) : t * a' = n' * b := by rw [ha, hn, z]
end Mo
namespace Mo
open PySem L2
theorem kit_self {K : PySem.W.Frag} {C : Addr} : PySem.W.kitOne K (.ref C) (.ref C) = some true := by
  unfold PySem.W.kitOne
  rw [if_pos (beq_self_eq_true _)]
theorem kit_ct {K : PySem.W.Frag} {C : Addr} {T : String} {b : Bool} (h : PySem.W.subIn K (.ref C) (.type T) = some b) (hm : PySem.W.kitMeta T = true := by decide +kernel) : PySem.W.kitOne K (.ref C) (.type T) = some b := by
  unfold PySem.W.kitOne
  rw [if_neg (by intro z; cases beq_iff_eq.mp z)]
  show (if PySem.W.kitMeta T = true then PySem.W.subIn K (.ref C) (.type T) else none) = some b
  rw [if_pos hm, h]
theorem kit_tc {K : PySem.W.Frag} {C : Addr} {T : String} {b : Bool} (hc : PySem.W.isClsIn K C = true) (ht : PySem.W.typeIn K (.ref C) = some (.type "type")) (h : PySem.W.subIn K (.type T) (.ref C) = some b) : PySem.W.kitOne K (.type T) (.ref C) = some b := by
  unfold PySem.W.kitOne
  rw [if_neg (by intro z; cases beq_iff_eq.mp z)]
  have h2 : (PySem.W.clsIn K C).isSome = true := hc
  show (if ((PySem.W.clsIn K C).isSome && PySem.W.typeIn K (.ref C) == some (.type "type")) = true then PySem.W.subIn K (.type T) (.ref C) else none) = some b
  rw [if_pos (by rw [h2, ht]; rfl), h]
theorem two_up {K : PySem.W.Frag} {C : Addr} {cd : ClassData} (h : PySem.W.clsIn K C = some cd) (hm : cd.mro = [.ref C, .type "object"]) : twoUp K C = true := by
  unfold twoUp
  rw [h]
  show (cd.mro == [.ref C, .type "object"]) = true
  rw [hm]
  exact beq_self_eq_true _
end Mo

namespace Mo
open PySem L2
open Evl (Ex)
section
variable {X : Cx} {CX : CXT} {k : Nat} {f C : Addr} {fd : FuncData} {ps : List Str} {sp : Sp} {E : St → XK} {x m : Str} {p pos apos : Pos} {e o : Expr} {es : List Expr} {ta : TE} {t : TA} {dvs : List V} {ds : List Value}
/-- C(..) in a try: what its __init__ raises is wished for at the caller's slots -/
def tMakeS (C : Addr) (sp : Sp) (dvs : List V) (E : St → XK) (t : TA) : TE := fun σ H Q => t σ H fun vs H1 => ∀ x dx, H1 x = none → H1 dx = none → dx ≠ x →
  sp (.ref x :: (vs ++ dvs)) (upd (upd H1 dx (.own x)) x (.ins C dx [])) (fun v H2 => v = .non ∧ Q (.ref x) H2) (E σ)
theorem run_makeS {pins : List (Addr × Obj)} {σ : St} {H : Hp} {s : Shared} {Q : VK} {us : List Value} {vs : List V} (M : Mk X.K C f) (F : FnOk X.prog X.w X.K X.mg X.base CX k f fd ps sp) (hr : Room (k + 1) X.A) (hb : Binds X.K fd ps ds) (hd : Vals dvs ds)
    (hx : PassesAt CX X σ (E σ)) (I : Inv X pins σ H s) (r : Vals vs us)
    (h : ∀ x dx, H x = none → H dx = none → dx ≠ x → sp (.ref x :: (vs ++ dvs)) (upd (upd H dx (.own x)) x (.ins C dx [])) (fun v H2 => v = .non ∧ Q (.ref x) H2) (E σ)) :
    wpAny (model X.prog X.w) X.A (call (.ref C) us) (EP X pins σ Q) X.xe s := by
  have at_ := h (s.heap.objs.size + 1) s.heap.objs.size (I.hok.fresh (Nat.le_succ _)) (I.hok.fresh (Nat.le_refl _)) (Nat.ne_of_lt (Nat.lt_succ_self _))
  have made := Inv.made (C := C) I
  have rel : Vals (V.ref (s.heap.objs.size + 1) :: (vs ++ dvs)) (Value.ref (s.heap.objs.size + 1) :: (us ++ ds)) := .cons rfl (r.append hd)
  have len : (Value.ref (s.heap.objs.size + 1) :: us ++ ds).length = ps.length := by
    have z := rel.length
    rw [F.len _ _ _ _ at_] at z
    exact z.symm
  refine wpAny_call (make_map (f := f) I.kIn M.makes M.init (beq_iff_eq.mp M.fn) (codeAny_mono (F.run _ X.stack _ _ ⟨Value.ref (s.heap.objs.size + 1) :: us, []⟩ (Value.ref (s.heap.objs.size + 1) :: (us ++ ds)) _ _ (E σ) (hr.make C us []) (made.env0.make C us [])
    (hb _ (Value.ref (s.heap.objs.size + 1) :: us) made.kIn len) rel at_) fun res s' q => ?_))
  cases res with
  | error er => exact hx pins _ _ er s' made q
  | ok fl => cases fl with
    | ret u =>
      obtain ⟨v, H', J, rv, ev, q3⟩ := made.after q
      subst ev
      exact ⟨rv, V.ref (s.heap.objs.size + 1), H', J, rfl, q3⟩
    | next => exact q.elim
    | brk => exact q.elim
    | cont => exact q.elim
theorem pe_makeS (M : Mk X.K C f) (F : FnOk X.prog X.w X.K X.mg X.base CX k f fd ps sp) (hr : Room (k + 1) X.A) (hg : Gl X x) (hm : X.mg x = some (.ref C)) (hb : Binds X.K fd ps ds) (hd : Vals dvs ds) (hx : ∀ σ, PassesAt CX X σ (E σ)) (ha : PA X (e :: es) t)
    (hdb : (x == ("__debug__" : Str)) = false := by decide) (he : starEach (e :: es) X.env = (false, eval e X.env) :: starEach es X.env := by rfl) (hpl : (backTo pos (starEach es X.env)).any (·.1) = false := by rfl) :
    PE X (.Call (.Name x p) (e :: es) [] pos) (tMakeS C sp dvs E t) :=
  ⟨fun pins s σ H Q I h => wpAny_Call_Name_kw (ld_glob I hg hm (PySem.W.callWith_K (h₀ := X.base) I.ok.mod.kin M.kp (thn (ha.run pos pins s σ H _ I h) fun us s1 ⟨vs, H1, I1, r, q⟩ => ⟨I1.kIn, run_makeS M F hr hb hd (hx σ) I1 r q⟩) he hpl) hdb)⟩
end
/-- except C, for an error of C -/
theorem exm_own {K : PySem.W.Frag} {S : Addr} (h1 : PySem.W.subIn K (.ref S) (.type "BaseException") = some true) (h2 : PySem.W.isClsIn K S = true) (h3 : PySem.W.typeIn K (.ref S) = some (.type "type")) (h4 : PySem.W.subIn K (.ref S) (.ref S) = some true) : PySem.W.exmOne K (.ref S) (.ref S) = some true := by
  have h2' : (PySem.W.clsIn K S).isSome = true := h2
  show (if (PySem.W.subIn K (.ref S) (.type "BaseException") == some true) = true then (if ((PySem.W.clsIn K S).isSome && PySem.W.typeIn K (.ref S) == some (.type "type")) = true then PySem.W.subIn K (.ref S) (.ref S) else none) else none) = some true
  rw [if_pos (by rw [h1]; rfl), if_pos (by rw [h2', h3]; rfl), h4]
/-- what is no time -/
inductive Oth (H : Hp) : V → Prop where
  | str (z : Str) : Oth H (.str z)
  | non : Oth H .non
  | lst {a : Addr} {xs : List V} (e : H a = some (.lst xs)) : Oth H (.ref a)
  | tup {a : Addr} {xs : List V} (e : H a = some (.tup xs)) : Oth H (.ref a)
theorem Oth.par {C : Addr} {H : Hp} {y : V} (h : Oth H y) : Par C H y := by
  cases h with
  | str z => exact .str z
  | non => exact .non
  | lst e => exact .lst e
  | tup e => exact .tup e
/-- x == y -/
def spEq2 (C : Addr) : Sp := fun vs H Q _ => ∃ (x y : V) (t b : Int), vs = [x, y] ∧ Mo C t b x H ∧ ((∃ t' b' : Int, Mo C t' b' y H ∧ ∀ (k : Bool) (H' : Hp), Ex H H' → (k = true ↔ t = t' ∧ b = b') → Q (.bl k) H') ∨
  (∃ i : Int, y = .int i ∧ ∀ (k : Bool) (H' : Hp), Ex H H' → (k = true ↔ b = 1 ∧ t = i) → Q (.bl k) H') ∨ (Oth H y ∧ ∀ H', Ex H H' → Q (.bl false) H'))
/-- two lists of the same ints are equal -/
theorem op_eqL {X : Cx} {n : Nat} (hr : Room (n + 1) X.A) : OpR X (compareOp .Eq) (rEqG (DList DFlat)) := op_eqG (rcG_list mon_flat eqG_flat) (hr.mono (by omega))
theorem prs_ints : ∀ {H : Hp} (ns : List Int), Prs DFlat (ns.map V.int) (ns.map V.int) H
  | _, [] => .nil
  | _, n :: ns => .cons ⟨rfl, rfl, by simp [eqV]⟩ (prs_ints ns)
end Mo
namespace Mo
theorem iteB {c : Bool} {A B : Prop} (h : c = false) (hB : B) : if c = true then A else B := by
  subst h
  exact L2.iteF hB
theorem iteA {c : Bool} {A B : Prop} (h : c = true) (hA : A) : if c = true then A else B := by
  subst h
  exact L2.iteT hA
end Mo
namespace Mo
open PySem L2
open Evl (Ex)
/-- x < y and its like: what g says of the cross products -/
def spCmp (C : Addr) (g : Int → Int → Bool) : Sp := fun vs H Q _ => ∃ (x y : V) (t b t' b' : Int), vs = [x, y] ∧ Mo C t b x H ∧ Tm C t' b' y H ∧ Sm 1900 t ∧ Sm 1900 b ∧ Sm 1900 t' ∧ Sm 1900 b' ∧ ∀ H', Ex H H' → Q (.bl (g (t * b') (t' * b))) H'
def gLt (i j : Int) : Bool := decide (i < j)
def gLe (i j : Int) : Bool := decide (i ≤ j)
def gGt (i j : Int) : Bool := decide (j < i)
def gGe (i j : Int) : Bool := decide (j ≤ i)
/-- the two sides of a comparison: a moment first, or an int and a moment -/
def Two (C : Addr) (x : V) (t b : Int) (y : V) (t' b' : Int) (H : Hp) : Prop := (Mo C t b x H ∧ Tm C t' b' y H) ∨ ((x = .int t ∧ b = 1) ∧ Mo C t' b' y H)
theorem Two.ex {C : Addr} {x y : V} {t b t' b' : Int} {H H' : Hp} (h : Two C x t b y t' b' H) (e : Ex H H') : Two C x t b y t' b' H' := h.elim (fun h => .inl ⟨h.1.ex e, h.2.ex e⟩) fun h => .inr ⟨h.1, h.2.ex e⟩
/-- s: the sign of the first less the second -/
def spCompared (C : Addr) : Sp := fun vs H Q _ => ∃ (x y : V) (t b t' b' s : Int), vs = [x, y, .int s] ∧ Two C x t b y t' b' H ∧ Red t b ∧ Red t' b' ∧ Sm 1900 t ∧ Sm 1900 b ∧ Sm 1900 t' ∧ Sm 1900 b' ∧ (s < 0 ↔ t * b' < t' * b) ∧ (s = 0 ↔ t * b' = t' * b) ∧ ∀ H', Ex H H' → Q (.bl true) H'
theorem prs_flat : ∀ {H : Hp} {xs : List V}, (∀ x ∈ xs, flatV x = true ∧ eqV x x = true) → Prs DFlat xs xs H
  | _, [], _ => .nil
  | _, x :: xs, h => .cons ⟨(h x List.mem_cons_self).1, (h x List.mem_cons_self).1, (h x List.mem_cons_self).2⟩ (prs_flat fun y hy => h y (List.mem_cons_of_mem _ hy))
theorem red_one (i : Int) : Red i 1 := ⟨by decide, by unfold Int.gcd; simp⟩
/-- what a comparison by the own method, or by the int's side, hands on -/
theorem cmp_two {C : Addr} {x y : V} {t b t' b' : Int} {H : Hp} {g g' : Int → Int → Bool} {Q : VK} (h : Two C x t b y t' b' H) (st : Sm 1900 t) (sb : Sm 1900 b) (st' : Sm 1900 t') (sb' : Sm 1900 b') (hg : ∀ i j, g' i j = g j i)
    (k : ∀ H', Ex H H' → Q (.bl (g (t * b') (t' * b))) H') : rCmp C (spCmp C g) E0 x y H Q ∨ rCmpR C (spCmp C g') E0 x y H Q := by
  rcases h with ⟨h1, h2⟩ | ⟨⟨h1, h1'⟩, h2⟩
  · exact .inl ⟨h1.isC, h2.par, x, y, t, b, t', b', rfl, h1, h2, st, sb, st', sb', k⟩
  · refine .inr ⟨⟨t, h1⟩, h2.isC, y, x, t', b', t, b, rfl, h2, .inr ⟨h1, h1'⟩, st', sb', st, sb, fun H' e => ?_⟩
    rw [hg]
    exact k H' e
theorem eq_two {C : Addr} {x y : V} {t b t' b' : Int} {H : Hp} {Q : VK} (h : Two C x t b y t' b' H) (r : Red t b) (r' : Red t' b') (k : ∀ H', Ex H H' → Q (.bl (decide (t * b' = t' * b))) H') : rCmp C (spEq2 C) E0 x y H Q ∨ rCmpR C (spEq2 C) E0 x y H Q := by
  have fin : ∀ (c : Bool) (H' : Hp), Ex H H' → (c = true ↔ t * b' = t' * b) → Q (.bl c) H' := fun c H' e hc => by
    have q : c = decide (t * b' = t' * b) := Bool.eq_iff_iff.mpr (hc.trans (decide_eq_true_iff).symm)
    rw [q]
    exact k H' e
  rcases h with ⟨h1, h2 | ⟨h2, h2'⟩⟩ | ⟨⟨h1, h1'⟩, h2⟩
  · exact .inl ⟨h1.isC, h2.par, x, y, t, b, rfl, h1, .inl ⟨t', b', h2, fun c H' e hc => fin c H' e (hc.trans (red_iff r r'))⟩⟩
  · subst h2'
    refine .inl ⟨h1.isC, by rw [h2]; exact .int _, x, y, t, b, rfl, h1, .inr (.inl ⟨t', h2, fun c H' e hc => fin c H' e (hc.trans ?_)⟩)⟩
    rw [← red_iff r r']
    exact ⟨fun z => ⟨z.2, z.1⟩, fun z => ⟨z.2, z.1⟩⟩
  · subst h1'
    refine .inr ⟨⟨t, h1⟩, h2.isC, y, x, t', b', rfl, h2, .inr (.inl ⟨t, h1, fun c H' e hc => fin c H' e (hc.trans ?_)⟩)⟩
    rw [← red_iff r r']
    exact ⟨fun z => ⟨z.2.symm, z.1.symm⟩, fun z => ⟨z.2.symm, z.1.symm⟩⟩
theorem ne_two {C : Addr} {x y : V} {t b t' b' : Int} {H : Hp} {Q : VK} (h : Two C x t b y t' b' H) (r : Red t b) (r' : Red t' b') (k : ∀ H', Ex H H' → Q (.bl (!decide (t * b' = t' * b))) H') : rNeO C (spEq2 C) E0 x y H Q ∨ rNeOR C (spEq2 C) E0 x y H Q := by
  rcases eq_two (Q := fun v H' => ∃ c, v = .bl c ∧ Q (.bl (!c)) H') h r r' (fun H' e => ⟨_, rfl, k H' e⟩) with z | z
  · exact .inl z
  · exact .inr z
end Mo
namespace Mo
open PySem L2
open Evl (Ex)
/-- a value that is no list and no dict -/
inductive Plain (K : PySem.W.Frag) (H : Hp) : V → Prop where
  | int (i : Int) : Plain K H (.int i)
  | str (z : Str) : Plain K H (.str z)
  | ins {C a dx : Addr} {fs : List (Str × V)} (e : H a = some (.ins C dx fs)) (ty : ∀ {H' : Hp} {fs : List (Str × V)}, H' a = some (.ins C dx fs) → TyX K H' (.ref a) (.ref C))
      (l : PySem.W.kitOne K (.ref C) (.type "list") = some false) (d : PySem.W.kitOne K (.ref C) (.type "dict") = some false) : Plain K H (.ref a)
theorem Plain.ty {K : PySem.W.Frag} {H : Hp} {x : V} (h : Plain K H x) : ∃ t, TyX K H x t ∧ PySem.W.kitOne K t (.type "list") = some false ∧ PySem.W.kitOne K t (.type "dict") = some false := by
  cases h with
  | int i => exact ⟨_, .base (.int _), kit_ty (by decide +kernel), kit_ty (by decide +kernel)⟩
  | str z => exact ⟨_, .base (.str _), kit_ty (by decide +kernel), kit_ty (by decide +kernel)⟩
  | ins e ty l d => exact ⟨_, ty e, l, d⟩
theorem Plain.keep {K : PySem.W.Frag} {H H' : Hp} {x : V} (h : Plain K H x) (k : ∀ (q C dx : Addr) (fs : List (Str × V)), H q = some (.ins C dx fs) → H' q = some (.ins C dx fs)) : Plain K H' x := by
  cases h with
  | int i => exact .int i
  | str z => exact .str z
  | ins e ty l d => exact .ins (k _ _ _ _ e) ty l d
theorem Plain.ex {K : PySem.W.Frag} {H H' : Hp} {x : V} (h : Plain K H x) (e : Ex H H') : Plain K H' x := h.keep fun _ _ _ _ q => e _ _ q
/-- _kept(x) -/
def spKept (K : PySem.W.Frag) : Sp := fun vs H Q _ => ∃ x, vs = [x] ∧ Plain K H x ∧ Q x H
/-- what a store into an error leaves of the instances -/
theorem ins_st {H : Hp} {a dx C' : Addr} {u v : HO} (ha : H a = some (exo a C' none)) (hd : H dx = none) : ∀ (q C dx' : Addr) (fs : List (Str × V)), H q = some (.ins C dx' fs) → upd (upd H dx u) a v q = some (.ins C dx' fs) := fun q C d fs e => by
  rw [upd_ne (ne_of e ha (by intro z; cases z)), upd_ne (ne_of_none e hd)]
  exact e
end Mo

namespace Mo
open PySem PySem.W PySem.Calls PyProof.Rows
section
variable {prog : Program} {w : World} {A : Around} {E : Value → Shared → Prop} {s : Shared} {K : Frag} {x C f : Addr} {ox : Obj} {od : Option Obj}
/-- abs(x) by the class's own method -/
theorem abs_K {Q : Value → Shared → Prop} (X : K.In s.heap) (I : InstAt s.heap x ox C od) (hs : findIn K (.ref C) "__abs__" = some (some (.ref f))) (hf : isFn K (.ref f) = true)
    (h : wpAny (model prog w) A.in1 (call (.ref f) [.ref x]) Q E s) : wpAny (model prog w) A (call (.builtin "abs") [.ref x]) Q E s := by
  refine Calls.call_function_entry kind_abs plain_abs entry_abs (args_abs _) ?_
  unfold Builtin.«abs»
  refine wpAny_bind (m := oneArg "abs" _) (wpAny_pure ?_)
  refine wpAny_bind (m := callSpecial? (.ref x) (Str.ofString "__abs__")) (special_fn X I hs (beq_iff_eq.mp hf) (wpAny_mono h (fun v s' q => ?_) fun _ _ z => z))
  exact wpAny_pure ⟨v, rfl, q⟩
theorem truth_K {M : Model} {Q : Bool → Shared → Prop} (X : K.In s.heap) (I : InstAt s.heap x ox C od) (hs : findIn K (.ref C) "__bool__" = some (some (.ref f))) (hf : isFn K (.ref f) = true)
    (h : wpAny M A (call (.ref f) [.ref x]) (fun v s' => ∃ b, v = .bool b ∧ Q b s') E s) : wpAny M A (truthy (.ref x)) Q E s := by
  unfold truthy
  refine wpAny_bind (m := callSpecial? (.ref x) (Str.ofString "__bool__")) (special_fn X I hs (beq_iff_eq.mp hf) (wpAny_mono h (fun r s' hr => ?_) fun _ _ y => y))
  obtain ⟨b, rfl, q⟩ := hr
  exact wpAny_pure q
/-- bool(x) by the class's own method -/
theorem bool_K {Q : Value → Shared → Prop} (X : K.In s.heap) (I : InstAt s.heap x ox C od) (hs : findIn K (.ref C) "__bool__" = some (some (.ref f))) (hf : isFn K (.ref f) = true)
    (h : wpAny (model prog w) A.in1.in1 (call (.ref f) [.ref x]) (fun v s' => ∃ b, v = .bool b ∧ Q (.bool b) s') E s) : wpAny (model prog w) A (call (.type "bool") [.ref x]) Q E s := by
  refine callType_newIn (S := fun A R s => K.In s.heap ∧ InstAt s.heap x ox C od ∧ wpAny (model prog w) A.in1 (call (.ref f) [.ref x]) (fun v s' => ∃ b, v = .bool b ∧ R (.ok (.ret (.bool b))) s') (fun e s' => R (.error e) s') s) F.called_bool F.newNe_bool (F.typeCall_bool_1 _) (F.newCall_bool_1 _) (fun obj => F.args_object_init_2 obj _) F.entry_bool_new (fun A R s ⟨X, I, h⟩ => ?_) ⟨X, I, wpAny_mono h (fun v s' ⟨b, e, q⟩ => ⟨b, e, rfl, q⟩) fun _ _ z => z⟩
  have f1 := F.conv_sub_bool
  have tr : wpAny (model prog w) A.in1 (truthy (.ref x)) (fun b s' => R (.ok (.ret (.bool b))) s') (fun e s' => R (.error e) s') s := truth_K X I hs hf h
  obtain ⟨hp, g, d, tk, os⟩ := s
  unfold Builtin.«bool.__new__»
  repeat (any_goals (first | assumption | (refine wpAny_bind (m := truthy (.ref x)) (wpAny_mono tr (fun b s' q => ?_) fun _ _ z => z)) | wp_step))
  all_goals first | exact q | exact wpAny_pure q | skip
end
open L2
section
variable {X : Cx} {CX : CXT} {n k : Nat} {f C : Addr} {fd : FuncData} {ps : List Str} {sp : Sp} {E : XK}
/-- a method run wherever the frames are ours -/
theorem run_any {A : Around} (F : FnOk X.prog X.w X.K X.mg X.base CX n f fd ps sp) (hr : Room n A) (fr : A.frames = X.A.frames) (hb : Binds X.K fd ps []) (hx : Passes CX X E) {pins : List (Addr × Obj)} {s : Shared} {σ : L2.St} {H : Hp} {xs : List V} {us : List Value} {Q : VK}
    (I : Inv X pins σ H s) (r : Vals xs us) (h : sp xs H Q E) : wpAny (model X.prog X.w) A (call (.ref f) us) (EP X pins σ Q) X.xe s := by
  have e0 : Env0 X.prog X.w X.K X.mg X.base A X.stack s H := ⟨by rw [fr]; exact I.env0.frames, I.env0.mod, I.env0.bs, I.env0.bsz, I.env0.funs, I.env0.frf, I.env0.hok, I.env0.bare⟩
  have hl : us.length = ps.length := by rw [← r.length]; exact F.len _ _ _ _ h
  have bb := hb s us I.kIn (by rw [List.append_nil]; exact hl)
  rw [List.append_nil] at bb
  refine wpAny_call (codeAny_mono (F.run A X.stack s H ⟨us, []⟩ us xs _ E hr e0 bb r h) fun res s' q => ?_)
  cases res with
  | error e => exact hx pins σ H s e s' I q
  | ok fl => cases fl with
    | ret u => exact I.after q
    | next => exact q.elim
    | brk => exact q.elim
    | cont => exact q.elim
def rOne (C : Addr) (sp : Sp) (E : XK) : V → Hp → VK → Prop := fun x H Q => IsC C x H ∧ sp [x] H Q E
theorem v1r (a : Addr) : Vals [V.ref a] [Value.ref a] := .cons rfl .nil
theorem un_own (hs : PySem.W.findIn X.K (.ref C) "__neg__" = some (some (.ref f))) (hf : PySem.W.isFn X.K (.ref f) = true) (F : FnOk X.prog X.w X.K X.mg X.base CX n f fd ps sp) (hr : Room n X.A) (hb : Binds X.K fd ps []) (hx : Passes CX X E) : UnR X (unaryOp .USub) (rOne C sp E) := by
  intro pins s σ H x v Q I rx h
  obtain ⟨⟨a, dx, fs, rfl, ha⟩, q⟩ := h
  cases rx
  obtain ⟨mA, J, _⟩ := ins_get I.hok ha
  obtain ⟨od, J, _⟩ := J.look
  obtain ⟨m, hF⟩ := I.fr
  exact PySem.W.ksp_neg hF I.ok.mod.kin J hs hf (run_any F hr rfl hb hx I (v1r a) q)
def rOneA (C : Addr) (sp : Sp) (E : XK) : List V → Hp → VK → Prop := fun vs H Q => ∃ x, vs = [x] ∧ IsC C x H ∧ sp [x] H Q E
theorem abs_own (hs : PySem.W.findIn X.K (.ref C) "__abs__" = some (some (.ref f))) (hf : PySem.W.isFn X.K (.ref f) = true) (F : FnOk X.prog X.w X.K X.mg X.base CX n f fd ps sp) (hr : Room (n + 1) X.A) (hb : Binds X.K fd ps []) (hx : Passes CX X E) : CallR X (.builtin "abs") (rOneA C sp E) := by
  intro pins s σ H vs us Q I r h
  obtain ⟨x, rfl, ⟨a, dx, fs, rfl, ha⟩, q⟩ := h
  obtain ⟨u, rfl, ru⟩ := vals1 r
  cases ru
  obtain ⟨mA, J, _⟩ := ins_get I.hok ha
  obtain ⟨od, J, _⟩ := J.look
  exact abs_K I.kIn J hs hf (run_any F hr.in1 rfl hb hx I (v1r a) q)
/-- bool(x) -/
def rBoolA (C : Addr) (sp : Sp) (E : XK) : List V → Hp → VK → Prop := fun vs H Q => ∃ x, vs = [x] ∧ IsC C x H ∧ sp [x] H (fun v H' => ∃ k, v = .bl k ∧ Q (.bl k) H') E
theorem bool_own (hs : PySem.W.findIn X.K (.ref C) "__bool__" = some (some (.ref f))) (hf : PySem.W.isFn X.K (.ref f) = true) (F : FnOk X.prog X.w X.K X.mg X.base CX n f fd ps sp) (hr : Room (n + 2) X.A) (hb : Binds X.K fd ps []) (hx : Passes CX X E) : CallR X (.type "bool") (rBoolA C sp E) := by
  intro pins s σ H vs us Q I r h
  obtain ⟨x, rfl, ⟨a, dx, fs, rfl, ha⟩, q⟩ := h
  obtain ⟨u, rfl, ru⟩ := vals1 r
  cases ru
  obtain ⟨mA, J, _⟩ := ins_get I.hok ha
  obtain ⟨od, J, _⟩ := J.look
  have z := run_any (Q := fun v H' => ∃ k, v = .bl k ∧ Q (.bl k) H') F hr.in1.in1 rfl hb hx I (v1r a) q
  refine bool_K I.kIn J hs hf (wpAny_mono z (fun v s' y => ?_) fun _ _ e => e)
  obtain ⟨v', H', I', ry, k, rfl, q'⟩ := y
  cases ry
  exact ⟨k, rfl, .bl k, H', I', rfl, q'⟩
end
section
variable {X : Cx} {CX : CXT} {k : Nat} {f C : Addr} {fd : FuncData} {ps : List Str} {sp : Sp} {E : L2.St → XK} {x m : Str} {p pos apos : Pos} {e o : Expr} {es : List Expr} {ta : TE} {t : TA}
/-- o.m(e, ..) in a try -/
def tMethS (C : Addr) (m : Str) (sp : Sp) (E : L2.St → XK) (ta : TE) (t : TA) : TE := fun σ H Q => ta σ H fun x H1 => ∃ a dx fs, x = .ref a ∧ H1 a = some (.ins C dx fs) ∧ fs.lookup m = none ∧ t σ H1 fun vs H2 => sp (x :: vs) H2 Q (E σ)
theorem pe_methS {pl : Sem Bool} (he : PE X o ta) (c : Cls X.K C) (hm : Meth X.K C m f) (F : FnOk X.prog X.w X.K X.mg X.base CX k f fd ps sp) (hr : Room k X.A) (hb : Binds X.K fd ps []) (hx : ∀ σ, PassesAt CX X σ (E σ)) (ha : PA X (e :: es) t)
    (hst : starEach (e :: es) X.env = (false, eval e X.env) :: starEach es X.env := by rfl) (hpl : (backTo pos (starEach es X.env)).any (·.1) = false := by rfl)
    (ht : eval (.Call (.Attribute o m apos) (e :: es) [] pos) X.env = (do
      let ov ← eval o X.env
      standAt apos.atName
      let (f, first) ← holding [ov] (getMethod ov m pl)
      callWith pos f first (backTo pos (starEach (e :: es) X.env)) (backToKw pos (keywordEach [] X.env))) := by rfl) :
    PE X (.Call (.Attribute o m apos) (e :: es) [] pos) (tMethS C m sp E ta t) := by
  refine ⟨fun pins s σ H Q I h => PySem.W.methodCall_KW (pl := pl) (thn (he.run pins s σ H _ I h) fun u s1 ⟨x, H1, I1, rx, a, dx, fs, ex, ea, l, q⟩ => ?_) ht⟩
  subst ex
  obtain rfl : u = Value.ref a := rx
  refine getmeth_ok I1 ea c hm l ?_
  exact PySem.W.callWith_K (first := [.ref a]) (h₀ := X.base) I.ok.mod.kin hm.kp (thn (ha.run pos pins s1 σ H1 _ I1 q) fun us s2 ⟨vs, H2, I2, r, q2⟩ => ⟨I2.kIn, run_fnS F hr hb (hx σ) I2 (us := .ref a :: us) (vs := .ref a :: vs) (.cons rfl r) q2⟩) hst hpl
end
theorem io_pow : IntOp .Pow := ⟨some (.builtin "int.__pow__"), some (.builtin "int.__rpow__"), fun K => (show PySem.fastLookup "int" (PySem.dunder "pow") = _ by decide +kernel), fun K => (show PySem.fastLookup "int" (PySem.dunderR "pow") = _ by decide +kernel)⟩
theorem exm_ZD {K : PySem.W.Frag} : PySem.W.exmOne K (.type "ZeroDivisionError") (.type "ZeroDivisionError") = some true := by kernel_rfl
/-- i // j where j may be 0, in a def or a try that takes the error -/
def tFdivX (W : WX) (ta tb : TE) : TE := fun σ H Q => ta σ H fun x H1 => tb σ H1 fun y H2 => ∃ i j, x = .int i ∧ y = .int j ∧ ((CDivNW i j ∧ Q (.int (i.fdiv j)) H2) ∨ (j = 0 ∧ ∀ d, W (.type "ZeroDivisionError") d σ H2))
theorem pe_fdivX {X : Cx} {W : WX} {a b : Expr} {ta tb : TE} {pos : Pos} (hc : X.calm = true) (tk : Takes X W) (ha : PE X a ta) (hb : PE X b tb) : PE X (.BinOp a .FloorDiv b pos) (tFdivX W ta tb) := by
  refine ⟨fun pins s σ H Q I h => wpAny_BinOp (binT ha hb I h fun v u s2 x y H2 I2 rx ry q => ?_)⟩
  obtain ⟨i, j, rfl, rfl, q⟩ := q
  rcases q with ⟨hd, q⟩ | ⟨rfl, q⟩
  · exact op_fdivNW pins s2 σ H2 _ _ _ _ Q I2 rx ry ⟨i, j, rfl, rfl, hd, q⟩
  · obtain ⟨t, rfl⟩ := rx
    obtain ⟨t', rfl⟩ := ry
    exact PySem.AutoIntOps.floordiv_0 rfl ⟨I2.ok.hd hc, fun h' tk' e hx => takes_new (t' := tk') tk I2 hx q⟩
end Mo
namespace Mo
open PySem L2
open Evl (Ex)
/-- x.over(y) -/
def spOver (C : Addr) : Sp := fun vs H Q E => ∃ (x y : V) (t b t' b' : Int), vs = [x, y] ∧ Mo C t b x H ∧ Tm C t' b' y H ∧ 0 < b ∧ Sm 1900 t ∧ Sm 1900 b ∧ Sm 1900 t' ∧ Sm 1900 b' ∧ (t' = 0 → ∀ d H', Ex H H' → E (.type "ZeroDivisionError") d H') ∧
  (t' ≠ 0 → ∀ (t2 b2 : Int) (v : V) (H' : Hp), Norm (t * b') (b * t') t2 b2 → Ex H H' → Mo C t2 b2 v H' → Q v H')
def spPow (C : Addr) : Sp := fun vs H Q _ => ∃ (x : V) (t b n : Int), vs = [x, .int n] ∧ Mo C t b x H ∧ 0 < b ∧ 0 ≤ n ∧ n ≤ 100 ∧ (∀ i : Nat, i ≤ n.toNat → Sm 3900 (t ^ i) ∧ Sm 3900 (b ^ i)) ∧ Sm 1900 t ∧ Sm 1900 b ∧
  ∀ (t2 b2 : Int) (v : V) (H' : Hp), Norm (t ^ n.toNat) (b ^ n.toNat) t2 b2 → Ex H H' → Mo C t2 b2 v H' → Q v H'
def spNeg (C : Addr) : Sp := fun vs H Q _ => ∃ (x : V) (t b : Int), vs = [x] ∧ Mo C t b x H ∧ 0 < b ∧ Sm 1900 t ∧ Sm 1900 b ∧ ∀ (t2 b2 : Int) (v : V) (H' : Hp), Norm (-t) b t2 b2 → Ex H H' → Mo C t2 b2 v H' → Q v H'
def spAbs (C : Addr) : Sp := fun vs H Q _ => ∃ (x : V) (t b : Int), vs = [x] ∧ Mo C t b x H ∧ 0 < b ∧ Sm 1900 t ∧ Sm 1900 b ∧ ∀ (t2 b2 : Int) (v : V) (H' : Hp), Norm (if t < 0 then -t else t) b t2 b2 → Ex H H' → Mo C t2 b2 v H' → Q v H'
def spBool (C : Addr) : Sp := fun vs H Q _ => ∃ (x : V) (t b : Int), vs = [x] ∧ Mo C t b x H ∧ Q (.bl (t != 0)) H
def spPower : Sp := fun vs H Q _ => ∃ (t n : Int), vs = [.int t, .int n] ∧ 0 ≤ n ∧ n ≤ 100 ∧ Sm 1900 t ∧ (∀ i : Nat, i ≤ n.toNat → Sm 3900 (t ^ i)) ∧ Q (.int (t ^ n.toNat)) H
def spQuot (C : Addr) : Sp := fun vs H Q _ => ∃ (x y : V) (t b n d t' b' n' d' : Int), vs = [x, y, .int n, .int d, .int n', .int d'] ∧ Mo C t b x H ∧ Tm C t' b' y H ∧ t * d = n * b ∧ t' * d' = n' * b' ∧ 0 < b ∧ 0 < b' ∧ d' ≠ 0 ∧
  Sm 1900 t ∧ Sm 1900 b ∧ Sm 1900 t' ∧ Sm 1900 b' ∧ Sm 1900 n ∧ Sm 1900 d ∧ Sm 1900 n' ∧ Sm 1900 d' ∧ ∀ H', Ex H H' → Q (.bl true) H'
theorem sm_pow {k : Nat} {t : Int} (h : Sm k t) (n : Nat) : Sm (k * n + 1) (t ^ n) := by
  unfold Sm at *
  rw [Int.natAbs_pow, Nat.pow_succ]
  have h1 : t.natAbs ^ n ≤ (2 ^ k) ^ n := Nat.pow_le_pow_left (Nat.le_of_lt h) n
  rw [← Nat.pow_mul] at h1
  have h2 : 0 < 2 ^ (k * n) := Nat.pow_pos (by decide)
  omega
theorem sm_pows {k : Nat} {t : Int} {n : Int} (h : Sm k t) (hn : k * n.toNat ≤ 3899) : ∀ i : Nat, i ≤ n.toNat → Sm 3900 (t ^ i) := fun i hi => (sm_pow h i).mono (by have := Nat.mul_le_mul_left k hi; omega)
theorem over_eq {t b n d t' b' n' d' t2 b2 : Int} (N : Norm (t * b') (b * t') t2 b2) (h1 : t * d = n * b) (h2 : t' * d' = n' * b') (p1 : 0 < b) (p2 : 0 < b') : t2 * (d * n') = (n * d') * b2 := by
  have h := N.eq
  exact Int.eq_of_mul_eq_mul_left (Int.ne_of_gt (Int.mul_pos p1 p2)) (by grind)
theorem pow_eq {t b n d t2 b2 : Int} {m : Nat} (N : Norm (t ^ m) (b ^ m) t2 b2) (h1 : t * d = n * b) (p1 : 0 < b) : t2 * d ^ m = n ^ m * b2 := by
  have h := N.eq
  have e : t ^ m * d ^ m = n ^ m * b ^ m := by rw [← Int.mul_pow, ← Int.mul_pow, h1]
  generalize t ^ m = tm at *
  generalize d ^ m = dm at *
  generalize n ^ m = nm at *
  have p2 : 0 < b ^ m := Int.pow_pos p1
  generalize b ^ m = bm at *
  exact Int.eq_of_mul_eq_mul_left (Int.ne_of_gt p2) (by grind)
theorem neg_eq' {t b n d t2 b2 : Int} (N : Norm (-t) b t2 b2) (h1 : t * d = n * b) (p1 : 0 < b) : t2 * d = (-n) * b2 := by
  have h := N.eq
  exact Int.eq_of_mul_eq_mul_left (Int.ne_of_gt p1) (by grind)
theorem abs_eq' {t b n d t2 b2 s : Int} (N : Norm (if t < 0 then -t else t) b t2 b2) (h1 : t * d = n * b) (p1 : 0 < b) (hd : d ≠ 0) (hs : (n * d < 0 → s = -1) ∧ (¬ n * d < 0 → s = 1)) : t2 * d = (s * n) * b2 := by
  have h := N.eq
  have e : (t * (d * d)) = (n * d) * b := by grind
  have q : 0 < d * d := by
    rcases Int.lt_or_gt_of_ne hd with h | h
    · exact Int.mul_pos_of_neg_of_neg h h
    · exact Int.mul_pos h h
  by_cases ht : t < 0
  · have a : n * d < 0 := by
      have z : t * (d * d) < 0 := Int.mul_neg_of_neg_of_pos ht q
      rw [e] at z
      by_cases y : n * d < 0
      · exact y
      · have := Int.mul_nonneg (show 0 ≤ n * d by omega) (Int.le_of_lt p1)
        omega
    rw [if_pos ht] at h
    rw [hs.1 a]
    exact Int.eq_of_mul_eq_mul_left (Int.ne_of_gt p1) (by grind)
  · have a : ¬ n * d < 0 := fun y => by
      have z : (n * d) * b < 0 := Int.mul_neg_of_neg_of_pos y p1
      rw [← e] at z
      have := Int.mul_nonneg (show 0 ≤ t by omega) (Int.le_of_lt q)
      omega
    rw [if_neg ht] at h
    rw [hs.2 a]
    exact Int.eq_of_mul_eq_mul_left (Int.ne_of_gt p1) (by grind)
theorem zero_iff {t b n d : Int} (h1 : t * d = n * b) (p1 : 0 < b) (hd : d ≠ 0) : t = 0 ↔ n = 0 := by
  constructor <;> intro z
  · rw [z, Int.zero_mul] at h1
    exact (Int.mul_eq_zero.mp h1.symm).resolve_right (by omega)
  · rw [z, Int.zero_mul] at h1
    exact (Int.mul_eq_zero.mp h1).resolve_right hd
/-- a pair (x ** nn, nn) -/
def PowAt (C : Addr) (t b : Int) (x : V) (H : Hp) : Prop := ∃ (tp : Addr) (m : V) (nn t2 b2 : Int), x = .ref tp ∧ H tp = some (.tup [m, .int nn]) ∧ Mo C t2 b2 m H ∧ Norm (t ^ nn.toNat) (b ^ nn.toNat) t2 b2 ∧ 0 ≤ nn ∧ nn ≤ 60
theorem PowAt.ex {C : Addr} {t b : Int} {x : V} {H H' : Hp} (h : PowAt C t b x H) (e : Ex H H') : PowAt C t b x H' := by
  obtain ⟨tp, m, nn, t2, b2, e1, e2, e3, e4, e5, e6⟩ := h
  exact ⟨tp, m, nn, t2, b2, e1, e _ _ e2, e3.ex e, e4, e5, e6⟩
end Mo

namespace Mo
open PySem L2
open Evl (Ex)
section
variable {X : Cx} {CX : CXT} {n k : Nat} {f g C : Addr} {fd gd : FuncData} {ps qs : List Str} {sp spR : Sp} {E : XK} {a b : Expr} {ta tb : TE} {pos : Pos}
theorem run_opS (F : FnOk X.prog X.w X.K X.mg X.base CX n f fd ps sp) (hr : Room n X.A) (hb : Binds X.K fd ps []) {σ : L2.St} (hx : PassesAt CX X σ E) {pins : List (Addr × Obj)} {s : Shared} {H : Hp} {xs : List V} {us : List Value} {Q : VK}
    (I : Inv X pins σ H s) (r : Vals xs us) (h : sp xs H Q E) : wpAny (model X.prog X.w) X.A (call (.ref f) us) (PySem.W.CmpBack (EP X pins σ Q)) X.xe s :=
  wpAny_mono (run_fnS (E := fun _ => E) F hr hb hx I r h) (fun v s' z => cmpBack_of z) fun _ _ e => e
theorem own_at {op : Operator} (T : Opc X.K C) (IO : IntOp op) (O : Op2 X.K C op.info.2 f) (F : FnOk X.prog X.w X.K X.mg X.base CX n f fd ps sp) (hr : Room n X.A) (hb : Binds X.K fd ps []) {σ : L2.St} (hx : PassesAt CX X σ E)
    {pins : List (Addr × Obj)} {s : Shared} {H : Hp} {x y : V} {v u : Value} {Q : VK} (I : Inv X pins σ H s) (rx : RelV x v) (ry : RelV y u) (h : rOwn C sp E x y H Q) : wpAny (model X.prog X.w) X.A (binaryOp op v u) (EP X pins σ Q) X.xe s := by
  obtain ⟨⟨a, dx, fs, rfl, ha⟩, hy, q⟩ := h
  cases rx
  obtain ⟨mA, J, _⟩ := ins_get I.hok ha
  obtain ⟨od, J, _⟩ := J.look
  obtain ⟨m, hF⟩ := I.fr
  rcases hy with ⟨b, dy, gs, rfl, hb'⟩ | ⟨i, rfl⟩
  · cases ry
    obtain ⟨mB, J', _⟩ := ins_get I.hok hb'
    obtain ⟨od', J', _⟩ := J'.look
    exact PySem.W.binop_K hF I.ok.mod.kin J J'.type T.sf O.at_ O.fn (run_opS F hr hb hx I (v2rr _ _) q)
  · obtain ⟨t, rfl⟩ := ry
    obtain ⟨fo, ro, e1, e2⟩ := IO.fo
    obtain ⟨g, e3⟩ := O.rr
    obtain ⟨rc, e4, e5⟩ : ∃ rc, PySem.W.findIn X.K (.ref C) (PySem.dunderR op.info.2) = some rc ∧ (rc = none ∨ ∃ g : Addr, rc = some (.ref g)) := by
      rcases e3 with e3 | e3
      · exact ⟨_, e3, .inl rfl⟩
      · exact ⟨_, e3, .inr ⟨g, rfl⟩⟩
    exact PySem.W.ksp_binT (T := "int") hF I.ok.mod.kin J rfl T.sf O.at_ O.fn e4 e5 (e1 _) (e2 _) nf_int (run_opS F hr hb hx I (v2ri _ _ _) q)
theorem ownR_at {op : Operator} (T : Opc X.K C) (IO : IntOpR op) (O : OpR2 X.K C op.info.2 f) (F : FnOk X.prog X.w X.K X.mg X.base CX n f fd ps sp) (hr : Room n X.A) (hb : Binds X.K fd ps []) {σ : L2.St} (hx : PassesAt CX X σ E)
    {pins : List (Addr × Obj)} {s : Shared} {H : Hp} {x y : V} {v u : Value} {Q : VK} (I : Inv X pins σ H s) (rx : RelV x v) (ry : RelV y u) (h : rOwnR C sp E x y H Q) : wpAny (model X.prog X.w) X.A (binaryOp op v u) (EP X pins σ Q) X.xe s := by
  obtain ⟨⟨i, rfl⟩, ⟨a, dx, fs, rfl, ha⟩, q⟩ := h
  cases ry
  obtain ⟨t, rfl⟩ := rx
  obtain ⟨mA, J, _⟩ := ins_get I.hok ha
  obtain ⟨od, J, _⟩ := J.look
  obtain ⟨m, hF⟩ := I.fr
  obtain ⟨g, g1, g2⟩ := O.ll
  obtain ⟨id, B, s1, s2, s3, s4⟩ := IO.sl
  exact binR_K hF I.ok.mod.kin J rfl T.sf g1 g2 O.at_ O.fn T.nInt s1 IO.fills s2 (s3 _ _ _) s4 (run_opS F hr hb hx I (v2ri _ _ _) q)
/-- a op b in a try, by the left one's method or by the right one's -/
def tTwoS (C : Addr) (sp spR : Sp) (E : L2.St → XK) (ta tb : TE) : TE := fun σ H Q => ta σ H fun x H1 => tb σ H1 fun y H2 => rOwn C sp (E σ) x y H2 Q ∨ rOwnR C spR (E σ) x y H2 Q
theorem pe_twoS {op : Operator} {E : L2.St → XK} (ha : PE X a ta) (hb : PE X b tb) (T : Opc X.K C) (IO : IntOp op) (O : Op2 X.K C op.info.2 f) (F : FnOk X.prog X.w X.K X.mg X.base CX n f fd ps sp) (hr : Room n X.A) (bd : Binds X.K fd ps [])
    (IR : IntOpR op) (OR : OpR2 X.K C op.info.2 g) (G : FnOk X.prog X.w X.K X.mg X.base CX k g gd qs spR) (hr2 : Room k X.A) (bg : Binds X.K gd qs []) (hx : ∀ σ, PassesAt CX X σ (E σ)) : PE X (.BinOp a op b pos) (tTwoS C sp spR E ta tb) := by
  refine ⟨fun pins s σ H Q I h => wpAny_BinOp (binT ha hb I h fun v u s2 x y H2 I2 rx ry q => ?_)⟩
  rcases q with q | q
  · exact own_at T IO O F hr bd (hx σ) I2 rx ry q
  · exact ownR_at T IR OR G hr2 bg (hx σ) I2 rx ry q
end
def ZDs (E : XK) (H : Hp) : Prop := ∀ (d : Option Addr) (H' : Hp), Ex H H' → E (.type "ZeroDivisionError") d H'
def spFloor (C : Addr) : Sp := fun vs H Q E => ∃ (x y : V) (t b t' b' : Int), vs = [x, y] ∧ Mo C t b x H ∧ Tm C t' b' y H ∧ 0 < b ∧ 0 < b' ∧ Sm 1900 t ∧ Sm 1900 b ∧ Sm 1900 t' ∧ Sm 1900 b' ∧ (t' = 0 → ZDs E H) ∧
  (t' ≠ 0 → ∀ H' : Hp, Ex H H' → Q (.int ((t * b').fdiv (b * t'))) H')
def spFloorR (C : Addr) : Sp := fun vs H Q E => ∃ (x y : V) (t b t' b' : Int), vs = [x, y] ∧ Mo C t b x H ∧ Tm C t' b' y H ∧ 0 < b ∧ 0 < b' ∧ Sm 1900 t ∧ Sm 1900 b ∧ Sm 1900 t' ∧ Sm 1900 b' ∧ (t = 0 → ZDs E H) ∧
  (t ≠ 0 → ∀ H' : Hp, Ex H H' → Q (.int ((t' * b).fdiv (b' * t))) H')
/-- what the rest of t/b by t'/b' is -/
def Rest (C : Addr) (t b t' b' : Int) (H : Hp) (Q : VK) : Prop := ∀ (t2 b2 : Int) (v : V) (H' : Hp), Red t2 b2 → t2 * (b * b') = (t * b' - (t * b').fdiv (b * t') * t' * b) * b2 → Sm 4000 t2 → Sm 4000 b2 → Ex H H' → Mo C t2 b2 v H' → Q v H'
def spMod (C : Addr) : Sp := fun vs H Q E => ∃ (x y : V) (t b t' b' : Int), vs = [x, y] ∧ Mo C t b x H ∧ Tm C t' b' y H ∧ 0 < b ∧ 0 < b' ∧ Sm 400 t ∧ Sm 400 b ∧ Sm 400 t' ∧ Sm 400 b' ∧ (t' = 0 → ZDs E H) ∧ (t' ≠ 0 → Rest C t b t' b' H Q)
def spModR (C : Addr) : Sp := fun vs H Q E => ∃ (x y : V) (t b t' b' : Int), vs = [x, y] ∧ Mo C t b x H ∧ Tm C t' b' y H ∧ 0 < b ∧ 0 < b' ∧ Sm 400 t ∧ Sm 400 b ∧ Sm 400 t' ∧ Sm 400 b' ∧ (t = 0 → ZDs E H) ∧ (t ≠ 0 → Rest C t' b' t b H Q)
def spDiv (C : Addr) : Sp := fun vs H Q _ => ∃ (x y : V) (t b n d t' b' n' d' : Int), vs = [x, y, .int n, .int d, .int n', .int d'] ∧ Two C x t b y t' b' H ∧ t * d = n * b ∧ t' * d' = n' * b' ∧ 0 < b ∧ 0 < b' ∧ d ≠ 0 ∧ d' ≠ 0 ∧
  Sm 400 t ∧ Sm 400 b ∧ Sm 400 t' ∧ Sm 400 b' ∧ Sm 400 n ∧ Sm 400 d ∧ Sm 400 n' ∧ Sm 400 d' ∧ ∀ H', Ex H H' → Q (.bl true) H'
theorem Tm.opx {C : Addr} {t b : Int} {v : V} {H : Hp} (h : Tm C t b v H) : IsC C v H ∨ ∃ i, v = .int i := h.op
theorem floor_two {C : Addr} {E : XK} {x y : V} {t b t' b' : Int} {H : Hp} {Q : VK} (h : Two C x t b y t' b' H) (p1 : 0 < b) (p2 : 0 < b') (st : Sm 1900 t) (sb : Sm 1900 b) (st' : Sm 1900 t') (sb' : Sm 1900 b') (kE : t' = 0 → ZDs E H)
    (kQ : t' ≠ 0 → ∀ H' : Hp, Ex H H' → Q (.int ((t * b').fdiv (b * t'))) H') : rOwn C (spFloor C) E x y H Q ∨ rOwnR C (spFloorR C) E x y H Q := by
  rcases h with ⟨h1, h2⟩ | ⟨⟨h1, h1'⟩, h2⟩
  · exact .inl ⟨h1.isC, h2.op, x, y, t, b, t', b', rfl, h1, h2, p1, p2, st, sb, st', sb', kE, kQ⟩
  · exact .inr ⟨⟨t, h1⟩, h2.isC, y, x, t', b', t, b, rfl, h2, .inr ⟨h1, h1'⟩, p2, p1, st', sb', st, sb, kE, kQ⟩
theorem mod_two {C : Addr} {E : XK} {x y : V} {t b t' b' : Int} {H : Hp} {Q : VK} (h : Two C x t b y t' b' H) (p1 : 0 < b) (p2 : 0 < b') (st : Sm 400 t) (sb : Sm 400 b) (st' : Sm 400 t') (sb' : Sm 400 b') (kE : t' = 0 → ZDs E H)
    (kQ : t' ≠ 0 → Rest C t b t' b' H Q) : rOwn C (spMod C) E x y H Q ∨ rOwnR C (spModR C) E x y H Q := by
  rcases h with ⟨h1, h2⟩ | ⟨⟨h1, h1'⟩, h2⟩
  · exact .inl ⟨h1.isC, h2.op, x, y, t, b, t', b', rfl, h1, h2, p1, p2, st, sb, st', sb', kE, kQ⟩
  · exact .inr ⟨⟨t, h1⟩, h2.isC, y, x, t', b', t, b, rfl, h2, .inr ⟨h1, h1'⟩, p2, p1, st', sb', st, sb, kE, kQ⟩
/-! the numbers -/
theorem mod_eqM {t b t' b' q t3 b3 t2 b2 : Int} (N1 : Norm (nMul t' b' q 1) (dAll t' b' q 1) t3 b3) (N2 : Norm (nSub t b t3 b3) (dAll t b t3 b3) t2 b2) : t2 * (b * b') = (t * b' - q * t' * b) * b2 := by
  have h1 : t3 * (b' * 1) = (t' * q) * b3 := N1.eq
  have h2 : t2 * (b * b3) = (t * b3 - t3 * b) * b2 := N2.eq
  have p := N1.pos
  exact Int.eq_of_mul_eq_mul_left (Int.ne_of_gt p) (by grind)
theorem mod_eqI {t b t' q t2 b2 : Int} (N2 : Norm (nSub t b (t' * q) 1) (dAll t b (t' * q) 1) t2 b2) : t2 * (b * 1) = (t * 1 - q * t' * b) * b2 := by
  have h2 : t2 * (b * 1) = (t * 1 - (t' * q) * b) * b2 := N2.eq
  grind
theorem floor_same {t b n d t' b' n' d' : Int} (h1 : t * d = n * b) (h2 : t' * d' = n' * b') (p1 : 0 < b) (p2 : 0 < b') (hd : d ≠ 0) (hd' : d' ≠ 0) : (t * b').fdiv (b * t') = (n * d').fdiv (d * n') := by
  have e1 : (t * b') * (d * d') = (n * d') * (b * b') := by grind
  have e2 : (b * t') * (d * d') = (d * n') * (b * b') := by grind
  have pB : 0 < b * b' := Int.mul_pos p1 p2
  rcases Int.lt_or_gt_of_ne (Int.mul_ne_zero hd hd') with z | z
  · have z' : 0 < -(d * d') := by omega
    rw [← Int.mul_fdiv_mul_of_pos_left (t * b') (b * t') z', ← Int.mul_fdiv_mul_of_pos_left (n * d') (d * n') pB, Int.mul_neg, Int.mul_neg, e1, e2, Int.neg_fdiv_neg]
  · rw [← Int.mul_fdiv_mul_of_pos_left (t * b') (b * t') z, ← Int.mul_fdiv_mul_of_pos_left (n * d') (d * n') pB, e1, e2]
theorem rest_eq {t b n d t' b' n' d' q t2 b2 : Int} (h : t2 * (b * b') = (t * b' - q * t' * b) * b2) (h1 : t * d = n * b) (h2 : t' * d' = n' * b') (p1 : 0 < b) (p2 : 0 < b') : t2 * (d * d') = (n * d' - q * n' * d) * b2 := by
  have pB : 0 < b * b' := Int.mul_pos p1 p2
  exact Int.eq_of_mul_eq_mul_left (Int.ne_of_gt pB) (by grind)
theorem sm_fdiv {k : Nat} {n d : Int} (h : Sm k n) : Sm k (n.fdiv d) := h.le (Int.natAbs_fdiv_le_natAbs n d)
end Mo

namespace Mo
open PySem L2
open Evl (Ex)
section
variable {X : Cx} {CX : CXT} {k : Nat} {fI C : Addr} {fd : FuncData} {ps : List Str} {sp : Sp} {x n : Str} {p pos : Pos} {e : Expr} {es : List Expr} {ta : TA} {te : TE} {dvs : List V} {ds : List Value}
/-- C(e, ..), an error class with its own __init__, as a value -/
def tMkV (C : Addr) (sp : Sp) (dvs : List V) (ta : TA) : TE := fun σ H Q => ta σ H fun vs H1 => vs.length ≤ 1000 ∧ ∀ a, H1 a = none → sp (.ref a :: (vs ++ dvs)) (upd H1 a (exo a C none)) (fun v H2 => v = .non ∧ Q (.ref a) H2) (fun _ _ _ => False)
theorem pe_oexV (T : OexC X.K C) (iC : PySem.W.findIn X.K (.ref C) "__init__" = some (some (.ref fI))) (tI : PySem.W.typeIn X.K (.ref fI) = some (.type "function"))
    (F1 : FnOk X.prog X.w X.K X.mg X.base CX k fI fd ps sp) (hr : Room (k + 1) X.A) (hb : Binds X.K fd ps ds) (hd : Vals dvs ds) (hx : Passes CX X (fun _ _ _ => False)) (hg : Gl X x) (hm : X.mg x = some (.ref C)) (ha : PA X (e :: es) ta)
    (hdb : (x == ("__debug__" : Str)) = false := by decide) (he : starEach (e :: es) X.env = (false, eval e X.env) :: starEach es X.env := by rfl) (hpl : (backTo pos (starEach es X.env)).any (·.1) = false := by rfl) :
    PE X (.Call (.Name x p) (e :: es) [] pos) (tMkV C sp dvs ta) := by
  refine ⟨fun pins s σ H Q I h => ?_⟩
  obtain ⟨nm, q, N, bs, bm, sn, sub, ab, col, dd, k0, k1, k2, k3, k5, hC, hbm⟩ := T.cls
  refine wpAny_Call_Name_kw (ld_glob I hg hm ?_ hdb)
  refine PySem.W.callWith_K (h₀ := X.base) I.ok.mod.kin T.kC (thn (ha.run pos pins s σ H _ I h) fun us s1 ⟨vs, H1, I1, r1, hz, q1⟩ => ⟨I1.kIn, ?_⟩) he hpl
  show wpAny _ _ (call (.ref C) us) _ _ _
  obtain ⟨hp, g, dr, tk, os⟩ := s1
  have hsz : hp.objs.size ≤ hp.objs.size + 1 := Nat.le_succ _
  have hn : H1 (hp.objs.size + 1) = none := I1.hok.fresh hsz
  have hq := q1 (hp.objs.size + 1) hn
  have kk : ∀ b o, hp.get? b = some o → ((hp.push (PySem.W.kdv_tup us)).push (PySem.HandSPX.excO C hp.objs.size)).get? b = some o := fun b o e => Heap.get?_push_of_some _ (Heap.get?_push_of_some _ e)
  have hget : ((hp.push (PySem.W.kdv_tup us)).push (PySem.HandSPX.excO C hp.objs.size)).get? (hp.objs.size + 1) = some (PySem.HandSPX.excO C hp.objs.size) := by heap_get
  have I2 : Inv X pins σ (upd H1 (hp.objs.size + 1) (exo (hp.objs.size + 1) C none)) ⟨(hp.push (PySem.W.kdv_tup us)).push (PySem.HandSPX.excO C hp.objs.size), g, dr, tk, os⟩ :=
    I1.laid (t' := tk) (a := hp.objs.size + 1) (o := exo (hp.objs.size + 1) C none) (h' := (hp.push (PySem.W.kdv_tup us)).push (PySem.HandSPX.excO C hp.objs.size)) kk hsz (exo_ok hget)
  have r2 : Vals (V.ref (hp.objs.size + 1) :: (vs ++ dvs)) (Value.ref (hp.objs.size + 1) :: (us ++ ds)) := .cons rfl (r1.append hd)
  have hl : (Value.ref (hp.objs.size + 1) :: us ++ ds).length = ps.length := by
    have e := r2.length
    rw [F1.len _ _ _ _ hq] at e
    exact e.symm
  have hus : us.length ≤ sizeLine := by
    rw [← Paired.length r1, sizeLine_eq]
    omega
  refine wpAny_call (PySem.HandSPX.call_own F.excBase_ValueError (fun Y => PySem.HandSPX.refsVE_contains Y bm hbm) (I1.kIn _ _ hC) (PySem.W.looks_findIn I1.kIn iC) (fun self => PySem.W.bind_fn I1.kIn self tI) hus
    (codeAny_mono (F1.run _ X.stack _ _ ⟨Value.ref (hp.objs.size + 1) :: us, []⟩ (Value.ref (hp.objs.size + 1) :: (us ++ ds)) _ _ (fun _ _ _ => False) (hr.make C us []) (I2.env0.make C us []) (hb _ (Value.ref (hp.objs.size + 1) :: us) I2.kIn hl) r2 hq) fun r s' hq' => ?_))
  cases r with
  | error er => exact hx pins σ _ _ er s' I2 hq'
  | ok fl =>
    cases fl with
    | ret u =>
      obtain ⟨v, H', J, rv, ev, q3⟩ := I2.after hq'
      subst ev
      exact ⟨rv, V.ref (hp.objs.size + 1), H', J, rfl, q3⟩
    | next => exact False.elim hq'
    | brk => exact False.elim hq'
    | cont => exact False.elim hq'
/-- C(), an error class without its own __init__, as a value -/
theorem pe_exc0 {bmB : List Value} {B newId initId : String} (F : ExcBaseFacts B newId initId bmB) (q : PySem.W.excIn X.K C bmB newId = true) (gC : X.mg x = some (.ref C)) (kC : PySem.W.keepIn X.K (.ref C) = true) (hg : Gl X x)
    (hdb : (x == ("__debug__" : Str)) = false := by decide) :
    PE X (.Call (.Name x p) [] [] pos) (fun σ H Q => ∀ a, H a = none → Q (.ref a) (upd H a (ExO (.ref C) a))) := by
  refine ⟨fun pins s σ H Q I h => ?_⟩
  refine wpAny_Call_Name_kw (ld_glob I hg gC ?_ hdb)
  refine PySem.W.callWith_K0 (first := []) I.kIn kC ?_
  show wpAny _ _ (call (.ref C) []) _ _ _
  obtain ⟨bm, N, nm, qn, bs, hdct, sn, sub, ab, col, dd, k0, k1, k2, k3, k5, mN, hC, hN, hni, T⟩ := exc_obj I.kIn q
  obtain ⟨hp, g, dr, tk, os⟩ := s
  refine wpAny_call_exc_subT F T hC hN hni (fun h' a hm => ?_) (by show 0 ≤ sizeLine; omega)
  have hn : H a = none := I.hok.gone hm.new
  obtain ⟨t, ht, _, _⟩ := hm.there
  exact ⟨.ref a, upd H a (ExO (.ref C) a), I.laidN hm.keeps hm.new hn (exO_ok ht ⟨rfl, rfl⟩ rfl rfl rfl (show 4 < 6 by decide)), rfl, h a hn⟩
/-- e.f of such a value -/
def tExo (K : PySem.W.Frag) (f : Str) (te : TE) : TE := fun σ H Q => te σ H fun x H1 => ∃ (a C d : Addr) (fs : List (Str × V)) (v : V), x = .ref a ∧ XfC K C ∧ PySem.W.findIn K (.ref C) f = some none ∧ H1 a = some (exo a C (some d)) ∧ H1 d = some (exd d fs) ∧ fs.lookup f = some v ∧ Q v H1
theorem pe_exo {e : Expr} {te : TE} (he : PE X e te) (hb : attributeBase e n X.env (eval e X.env) = eval e X.env := by rfl) : PE X (.Attribute e n pos) (tExo X.K n te) := by
  refine ⟨fun pins s σ H Q I h => ?_⟩
  refine attr_of hb (thn (he.run pins s σ H _ I h) fun u s1 hh => ?_)
  obtain ⟨x, H1, I1, rx, a, C, d, fs, v, ex, T, hno, ea, ed, l, q⟩ := hh
  subst ex
  obtain rfl : u = Value.ref a := rx
  obtain ⟨t0, ha⟩ := exo_at I1.hok ea
  obtain ⟨mA, hns, hr⟩ := exd_at I1.hok ed
  obtain ⟨od, ho, hl⟩ := lookIn_ns hns
  obtain ⟨u, hu, ru⟩ := RelO.some_of (v := v) (o := mA n) (by rw [← l]; exact hr n)
  have J : PySem.W.InstAt s1.heap a _ C (some od) := ⟨ha, rfl, rfl, ho⟩
  exact HandSPX.exc_get I1.kIn J T.ga T.gg T.exC (PySem.W.findObj_own T.hdC hno rfl (by rw [hl, hu])) (handed_of ru) ⟨v, H1, I1.tok _, ru, q⟩
end
/-- an error object of the class at C -/
def IsX (C a : Addr) (H : Hp) : Prop := (∃ d fs, H a = some (exo a C (some d)) ∧ H d = some (exd d fs)) ∨ H a = some (ExO (.ref C) a)
theorem IsX.ex {C a : Addr} {H H' : Hp} (h : IsX C a H) (e : Ex H H') : IsX C a H' := by
  rcases h with ⟨d, fs, h1, h2⟩ | h
  · exact .inl ⟨d, fs, e _ _ h1, e _ _ h2⟩
  · exact .inr (e _ _ h)
/-- what isinstance asks of its class -/
structure XiC (K : PySem.W.Frag) (C : Addr) : Prop where
  cl : PySem.W.isClsIn K C = true
  ga : PySem.W.findIn K (.ref C) "__getattribute__" = some (some (.builtin "BaseException.__getattribute__"))
  gg : PySem.W.findIn K (.ref C) "__getattr__" = some none
  ex : PySem.W.subIn K (.ref C) (.type "BaseException") = some true
  cc : PySem.W.findIn K (.ref C) "__class__" = some (some (.builtin "object.__class__"))
  cg : PySem.W.specialIn K (.builtin "object.__class__") "__get__" = some (some (.builtin "getset_descriptor.__get__"))
  ct : PySem.W.takesIn K (.builtin "object.__class__") = some true
  mo : PySem.W.mroIn K C (.type "object") = some true
def rIsiE (K : PySem.W.Frag) : List V → Hp → VK → Prop := fun xs H Q => ∃ (a C : Addr) (c : V) (u : Value) (b : Bool), xs = [.ref a, c] ∧ ClsV c u ∧ XiC K C ∧ IsX C a H ∧ PySem.W.kitOne K (.ref C) u = some b ∧ Q (.bl b) H
theorem call_isiE {X : Cx} : CallR X (.builtin "isinstance") (rIsiE X.K) := by
  intro pins s σ H xs us Q I r h
  obtain ⟨a, C, c, u, b, rfl, k, T, hx, e, q⟩ := h
  obtain ⟨u1, u2, rfl, r1, r2⟩ := vals2 r
  have e2 := k.eq r2
  subst e2
  cases (show u1 = Value.ref a from r1)
  have J : ∃ ox od, PySem.W.InstAt s.heap a ox C od := by
    rcases hx with ⟨d, fs, ea, ed⟩ | ea
    · obtain ⟨t0, ha⟩ := exo_at I.hok ea
      obtain ⟨mA, hns, hr⟩ := exd_at I.hok ed
      obtain ⟨od, ho, hl⟩ := lookIn_ns hns
      exact ⟨_, some od, ha, rfl, rfl, ho⟩
    · obtain ⟨⟨oe, vs, ho, hz, hd, _⟩, _, _⟩ := I.hok a _ ea
      exact ⟨oe, none, ho, hz.1, by unfold PySem.W.notCls; rw [hd] <;> rfl, by rw [hz.2]; trivial⟩
  obtain ⟨ox, od, J⟩ := J
  exact PySem.W.kia_one (PySem.W.kitx_exc T.cl T.ga T.gg T.ex T.cc T.cg T.ct T.mo) I.kIn J e (fun z => nomatch z) fun tk => ⟨.bl b, H, I.tok tk, rfl, q⟩
end Mo

namespace Mo
open PySem L2
open Evl (Ex)
/-- an error class as the top has left it -/
structure EC (K : PySem.W.Frag) (CA : Addr) (nm : Str) (C : Addr) : Prop where
  x : ∃ q N bs sn sub ab col dd k0 k1 k2 k3 k5, K.lookup C = some (excClassObj nm q C N bs [.ref CA, .type "ValueError", .type "Exception", .type "BaseException", .type "object"] true sn sub ab col dd k0 k1 k2 k3 k5 "ValueError.__new__")
  sa : PySem.W.findIn K (.ref C) "__setattr__" = some (some (.builtin "object.__setattr__"))
  ga : PySem.W.findIn K (.ref C) "__getattribute__" = some (some (.builtin "BaseException.__getattribute__"))
  gg : PySem.W.findIn K (.ref C) "__getattr__" = some none
  cc : PySem.W.findIn K (.ref C) "__class__" = some (some (.builtin "object.__class__"))
  kp : PySem.W.keepIn K (.ref C) = true
section
variable {K : PySem.W.Frag} {CA C : Addr} {nm : Str}
theorem clsIn_of {a : Value} {b : Option Addr} {cd : ClassData} {sl : Array (Option Value)} (e : K.lookup C = some ⟨a, b, .cls cd, sl⟩) : PySem.W.clsIn K C = some cd := by
  unfold PySem.W.clsIn
  rw [e]
theorem EC.cls (h : EC K CA nm C) : ∃ cd, PySem.W.clsIn K C = some cd ∧ cd.mro = [.ref C, .ref CA, .type "ValueError", .type "Exception", .type "BaseException", .type "object"] ∧ cd.name = nm ∧ cd.hasDict = true := by
  obtain ⟨q, N, bs, sn, sub, ab, col, dd, k0, k1, k2, k3, k5, e⟩ := h.x
  exact ⟨_, clsIn_of e, rfl, rfl, rfl⟩
theorem EC.sub (h : EC K CA nm C) (v : Value) : PySem.W.subIn K (.ref C) v = some (([.ref C, .ref CA, .type "ValueError", .type "Exception", .type "BaseException", .type "object"] : List Value).contains v) := by
  obtain ⟨cd, e, m, _⟩ := h.cls
  show PySem.W.mroIn K C v = _
  unfold PySem.W.mroIn
  rw [e]
  show (if cd.mro.isEmpty = true then none else some (cd.mro.contains v)) = _
  rw [m]
  rfl
theorem EC.ty (h : EC K CA nm C) : PySem.W.typeIn K (.ref C) = some (.type "type") := by
  obtain ⟨q, N, bs, sn, sub, ab, col, dd, k0, k1, k2, k3, k5, e⟩ := h.x
  show (K.lookup C).map _ = _
  rw [e]
  rfl
theorem EC.ic (h : EC K CA nm C) : PySem.W.isClsIn K C = true := by
  obtain ⟨cd, e, _⟩ := h.cls
  show (PySem.W.clsIn K C).isSome = true
  rw [e]
  rfl
theorem EC.hd (h : EC K CA nm C) : PySem.W.hasDictIn K C = true := by
  obtain ⟨cd, e, _, _, d⟩ := h.cls
  show (PySem.W.clsIn K C).any _ = true
  rw [e]
  exact d
theorem cont_ty {C CA : Addr} {T : String} (h : (["ValueError", "Exception", "BaseException", "object"] : List String).contains T = true) : ([.ref C, .ref CA, .type "ValueError", .type "Exception", .type "BaseException", .type "object"] : List Value).contains (.type T) = true := by
  have h' : T ∈ (["ValueError", "Exception", "BaseException", "object"] : List String) := List.contains_iff_mem.mp h
  refine List.contains_iff_mem.mpr ?_
  simp only [List.mem_cons, List.not_mem_nil, or_false] at h'
  rcases h' with rfl | rfl | rfl | rfl <;> simp
theorem EC.subT (h : EC K CA nm C) {T : String} (hT : (["ValueError", "Exception", "BaseException", "object"] : List String).contains T = true) : PySem.W.subIn K (.ref C) (.type T) = some true := by
  rw [h.sub, cont_ty hT]
theorem EC.oex (h : EC K CA nm C) : OexC K C := by
  obtain ⟨q, N, bs, sn, sub, ab, col, dd, k0, k1, k2, k3, k5, e⟩ := h.x
  exact ⟨⟨_, _, _, _, _, _, _, _, _, _, _, _, _, _, _, e, rfl⟩, h.sa, h.subT (by decide), h.ty, h.kp⟩
theorem EC.xf (h : EC K CA nm C) : XfC K C := ⟨h.ga, h.gg, h.subT (by decide), h.hd⟩
theorem EC.xi (h : EC K CA nm C) (cg : PySem.W.specialIn K (.builtin "object.__class__") "__get__" = some (some (.builtin "getset_descriptor.__get__"))) (ct : PySem.W.takesIn K (.builtin "object.__class__") = some true) : XiC K C :=
  ⟨h.ic, h.ga, h.gg, h.subT (by decide), h.cc, cg, ct, h.subT (T := "object") (by decide)⟩
theorem EC.kitT (h : EC K CA nm C) {T : String} (hT : (["ValueError", "Exception", "BaseException", "object"] : List String).contains T = true) (hm : PySem.W.kitMeta T = true := by decide +kernel) : PySem.W.kitOne K (.ref C) (.type T) = some true := kit_ct (h.subT hT) hm
theorem kit_rr {C D : Addr} {b : Bool} (hne : C ≠ D) (hc : PySem.W.isClsIn K D = true) (ht : PySem.W.typeIn K (.ref D) = some (.type "type")) (h : PySem.W.subIn K (.ref C) (.ref D) = some b) : PySem.W.kitOne K (.ref C) (.ref D) = some b := by
  unfold PySem.W.kitOne
  rw [if_neg (by intro z; exact hne (Value.ref.inj (beq_iff_eq.mp z)))]
  have h2 : (PySem.W.clsIn K D).isSome = true := hc
  show (if ((PySem.W.clsIn K D).isSome && PySem.W.typeIn K (.ref D) == some (.type "type")) = true then PySem.W.subIn K (.ref C) (.ref D) else none) = some b
  rw [if_pos (by rw [h2, ht]; rfl), h]
theorem EC.kitA (h : EC K CA nm C) (ic : PySem.W.isClsIn K CA = true) (ty : PySem.W.typeIn K (.ref CA) = some (.type "type")) : PySem.W.kitOne K (.ref C) (.ref CA) = some true := by
  by_cases e : C = CA
  · subst e
    exact kit_self
  · refine kit_rr e ic ty ?_
    rw [h.sub]
    congr 1
    exact List.contains_iff_mem.mpr (by simp)
theorem EC.kitD {D : Addr} {nm' : Str} (h : EC K CA nm C) (h' : EC K CA nm' D) (ne : C ≠ D) (na : D ≠ CA) : PySem.W.kitOne K (.ref C) (.ref D) = some false := by
  refine kit_rr ne h'.ic h'.ty ?_
  rw [h.sub]
  congr 1
  refine Bool.eq_false_iff.mpr fun z => ?_
  have z := List.contains_iff_mem.mp z
  simp only [List.mem_cons, List.not_mem_nil, or_false] at z
  rcases z with z | z | z | z | z | z
  · exact ne (Value.ref.inj z).symm
  · exact na (Value.ref.inj z)
  all_goals cases z
theorem EC.ne {D : Addr} {nm' : Str} (h : EC K CA nm C) (h' : EC K CA nm' D) (n : nm ≠ nm') : C ≠ D := fun e => by
  subst e
  obtain ⟨cd, e1, _, e2, _⟩ := h.cls
  obtain ⟨cd', e1', _, e2', _⟩ := h'.cls
  rw [e1] at e1'
  cases e1'
  exact n (e2.symm.trans e2')
theorem EC.na (h : EC K CA nm C) {cd : ClassData} (e : PySem.W.clsIn K CA = some cd) (n : cd.name ≠ nm) : C ≠ CA := fun z => by
  subst z
  obtain ⟨cd', e1, _, e2, _⟩ := h.cls
  rw [e1] at e
  cases e
  exact n e2
end
/-- classes with their names -/
inductive ECs (K : PySem.W.Frag) (CA : Addr) : List Str → List Addr → Prop where
  | nil : ECs K CA [] []
  | cons {nm : Str} {C : Addr} {ns : List Str} {Cs : List Addr} (h : EC K CA nm C) (t : ECs K CA ns Cs) : ECs K CA (nm :: ns) (C :: Cs)
theorem ECs.get {K : PySem.W.Frag} {CA : Addr} : ∀ {ns : List Str} {Cs : List Addr} {i : Nat} {C : Addr}, ECs K CA ns Cs → Cs[i]? = some C → ∃ nm, ns[i]? = some nm ∧ EC K CA nm C
  | _, _, 0, _, .cons h t, e => by cases e; exact ⟨_, rfl, h⟩
  | _, _, i + 1, _, .cons h t, e => t.get e
/-- which class an error of the j-th class is one of -/
theorem ECs.kit {K : PySem.W.Frag} {CA : Addr} {ns : List Str} {Cs : List Addr} (h : ECs K CA ns Cs) (nd : ns.Nodup) {cd : ClassData} (e : PySem.W.clsIn K CA = some cd) (na : cd.name ∉ ns) {i j : Nat} {C D : Addr} (h1 : Cs[j]? = some C) (h2 : Cs[i]? = some D) :
    PySem.W.kitOne K (.ref C) (.ref D) = some (decide (i = j)) := by
  obtain ⟨n1, g1, E1⟩ := h.get h1
  obtain ⟨n2, g2, E2⟩ := h.get h2
  by_cases hij : i = j
  · subst hij
    rw [h1] at h2
    cases h2
    rw [decide_eq_true rfl]
    exact kit_self
  · rw [decide_eq_false hij]
    refine E1.kitD E2 (E1.ne E2 fun q => hij ?_) (E2.na e fun q => na (q ▸ List.mem_of_getElem? g2))
    subst q
    obtain ⟨l1, _⟩ := List.getElem?_eq_some_iff.mp g1
    exact ((List.getElem?_inj l1 nd).mp (g1.trans g2.symm)).symm
/-! promises of the __init__s -/
def Kp (a : Addr) (H H' : Hp) : Prop := ∀ q o, H q = some o → q ≠ a → H' q = some o
theorem kp_ex {a : Addr} {o : HO} {H H' : Hp} (n : H a = none) (k : Kp a (upd H a o) H') : Ex H H' := fun q u e => by
  have hq : q ≠ a := ne_of_none e n
  exact k q u (by rw [upd_ne hq]; exact e) hq
def spE1 (C : Addr) (f : Str) : Sp := fun vs H Q _ => ∃ (a : Addr) (x : Int), vs = [.ref a, .int x] ∧ H a = some (exo a C none) ∧ ∀ dx H', Kp a H H' → H' a = some (exo a C (some dx)) → H' dx = some (exd dx [(f, .int x)]) → Q .non H'
def spE1i (C : Addr) (f : Str) : Sp := fun vs H Q _ => ∃ (a : Addr) (x : Int), vs = [.ref a, .int x] ∧ H a = some (exo a C none) ∧ ∀ dx H', Kp a H H' → H' a = some (exo a C (some dx)) → H' dx = some (exd dx [(f, .int x)]) → Q .non H'
theorem new_at {H : Hp} {l : Addr} {o : HO} (_ : Ex H (upd H l o)) : upd H l o l = some o := upd_same
def spE2 (C : Addr) (f g : Str) : Sp := fun vs H Q _ => ∃ (a : Addr) (x y : Int), vs = [.ref a, .int x, .int y] ∧ H a = some (exo a C none) ∧ ∀ dx H', Kp a H H' → H' a = some (exo a C (some dx)) → H' dx = some (exd dx [(g, .int y), (f, .int x)]) → Q .non H'
def spE3 (C : Addr) (f g h : Str) : Sp := fun vs H Q _ => ∃ (a : Addr) (x y z : Int), vs = [.ref a, .int x, .int y, .int z] ∧ H a = some (exo a C none) ∧ ∀ dx H', Kp a H H' → H' a = some (exo a C (some dx)) → H' dx = some (exd dx [(h, .int z), (g, .int y), (f, .int x)]) → Q .non H'
theorem kp1 {a dx : Addr} {H : Hp} {u w : HO} (n : H dx = none) : Kp a H (upd (upd H dx u) a w) := fun q o e hq => by
  have h2 : q ≠ dx := ne_of_none e n
  rw [upd_ne hq, upd_ne h2]
  exact e
theorem kp2 {a dx : Addr} {H H' : Hp} {u : HO} (n : H dx = none) (k : Kp a H H') : Kp a H (upd H' dx u) := fun q o e hq => by
  rw [upd_ne (ne_of_none e n)]
  exact k q o e hq
theorem lk1 {f : Str} {x : V} : ([(f, x)] : List (Str × V)).lookup f = some x := by rw [lookup_put, if_pos rfl]
theorem lk2 {f g : Str} {x y : V} (h : ¬ f = g) : ([(g, y), (f, x)] : List (Str × V)).lookup f = some x := by rw [lookup_put, if_neg h, lk1]
theorem lkh {f : Str} {x : V} {l : List (Str × V)} : ((f, x) :: l).lookup f = some x := by rw [lookup_put, if_pos rfl]
theorem lkt {f g : Str} {x y : V} {l : List (Str × V)} (h : ¬ f = g) (e : l.lookup f = some x) : ((g, y) :: l).lookup f = some x := by rw [lookup_put, if_neg h, e]
/-! rows -/
def RowAt (C : Addr) (x : V) (H : Hp) : Prop := ∃ (tp e l1 l2 : Addr) (zs : List Int), x = .ref tp ∧ H tp = some (.tup [.ref e, .ref l1, .ref l2]) ∧ IsX C e H ∧ H l1 = some (.lst (zs.map V.int)) ∧ H l2 = some (.lst (zs.map V.int)) ∧ zs.length ≤ 3
theorem RowAt.ex {C : Addr} {x : V} {H H' : Hp} (h : RowAt C x H) (e : Ex H H') : RowAt C x H' := by
  obtain ⟨tp, a, l1, l2, zs, h0, h1, h2, h3, h4, h5⟩ := h
  exact ⟨tp, a, l1, l2, zs, h0, e _ _ h1, h2.ex e, e _ _ h3, e _ _ h4, h5⟩
theorem rowAt_mk {C tp e l1 l2 : Addr} {H : Hp} (zs : List Int) (h1 : H tp = some (.tup [.ref e, .ref l1, .ref l2])) (h2 : IsX C e H) (h3 : H l1 = some (.lst (zs.map V.int))) (h4 : H l2 = some (.lst (zs.map V.int))) (h5 : zs.length ≤ 3) : RowAt C (.ref tp) H := ⟨tp, e, l1, l2, zs, rfl, h1, h2, h3, h4, h5⟩
inductive Rows : List Addr → List V → Hp → Prop where
  | nil {H : Hp} : Rows [] [] H
  | cons {C : Addr} {x : V} {Cs : List Addr} {xs : List V} {H : Hp} (h : RowAt C x H) (t : Rows Cs xs H) : Rows (C :: Cs) (x :: xs) H
theorem Rows.ex : ∀ {Cs : List Addr} {xs : List V} {H H' : Hp}, Rows Cs xs H → Ex H H' → Rows Cs xs H'
  | _, _, _, _, .nil, _ => .nil
  | _, _, _, _, .cons h t, e => .cons (h.ex e) (t.ex e)
theorem Rows.len : ∀ {Cs : List Addr} {xs : List V} {H : Hp}, Rows Cs xs H → xs.length = Cs.length
  | _, _, _, .nil => rfl
  | _, _, _, .cons h t => by rw [List.length_cons, List.length_cons, t.len]
theorem Rows.app : ∀ {Cs Ds : List Addr} {xs ys : List V} {H : Hp}, Rows Cs xs H → Rows Ds ys H → Rows (Cs ++ Ds) (xs ++ ys) H
  | _, _, _, _, _, .nil, r => r
  | _, _, _, _, _, .cons h t, r => .cons h (t.app r)
theorem Rows.get : ∀ {Cs : List Addr} {xs : List V} {H : Hp} {i : Nat}, Rows Cs xs H → i < xs.length → ∃ C x, Cs[i]? = some C ∧ xs[i]? = some x ∧ RowAt C x H
  | _, _, _, 0, .cons h t, _ => ⟨_, _, rfl, rfl, h⟩
  | _, _, _, i + 1, .cons h t, l => t.get (i := i) (by simpa using l)
  | _, _, _, _, .nil, l => by cases l
def spPairs (Cs : List Addr) : Sp := fun vs H Q _ => ∃ a b c : Int, vs = [.int a, .int b, .int c] ∧ ∀ p xs H', Ex H H' → H' p = some (.lst xs) → Rows Cs xs H' → Q (.ref p) H'
def spSingles (Cs : List Addr) : Sp := fun vs H Q _ => ∃ a : Int, vs = [.int a] ∧ ∀ p xs H', Ex H H' → H' p = some (.lst xs) → Rows Cs xs H' → Q (.ref p) H'
def spKinds (K : PySem.W.Frag) (Cs : List Addr) : Sp := fun vs H Q _ => ∃ (e C : Addr) (b : Nat → Bool), vs = [.ref e] ∧ XiC K C ∧ IsX C e H ∧ (∀ i D, Cs[i]? = some D → PySem.W.kitOne K (.ref C) (.ref D) = some (b i)) ∧
  ∀ p H', Ex H H' → H' p = some (.lst ((List.range 22).map fun i => V.bl (b i))) → Q (.ref p) H'
/-! equal lists of ints are not unequal -/
def dInts (ns : List Int) : PyData := .list (ns.map .int)
theorem dp_all {K : PySem.W.Frag} {H : Hp} : ∀ ns : List Int, DpAll K H (ns.map V.int) (ns.map PyData.int)
  | [] => .nil
  | n :: ns => .cons (.int n) (dp_all ns)
theorem dp_ints {K : PySem.W.Frag} {H : Hp} {a : Addr} {ns : List Int} (h : H a = some (.lst (ns.map V.int))) : Dp K H (.ref a) (dInts ns) := .lst (SqL.of h) (dp_all ns)
theorem shaped_ints : ∀ {ns : List Int}, ns.length ≤ 3 → SeqAt.shaped (dInts ns) = true
  | [], _ => rfl
  | [_], _ => rfl
  | [_, _], _ => rfl
  | [_, _, _], _ => rfl
  | _ :: _ :: _ :: _ :: _, h => by simp at h
theorem eqv_all : ∀ ns : List Int, PyData.eqvAll (ns.map PyData.int) (ns.map PyData.int) = true
  | [] => by simp [PyData.eqvAll]
  | n :: ns => by
    rw [List.map_cons, PyData.eqvAll, eqv_all ns, PyData.eqv]
    simp
theorem eqv_ints (ns : List Int) : PyData.eqv (dInts ns) (dInts ns) = true := by
  unfold dInts
  rw [PyData.eqv, eqv_all]
end Mo

namespace Mo
open PySem PyProof.Rows L2
open Evl (Ex)
section
variable {X : Cx} {a b c d : Expr} {ta tb tc td : TE} {pos : Pos}
/-- a op1 b op2 c op3 d, as a test -/
def tChain3 (r r' r'' : R2) (ta tb tc td : TE) : TT := fun σ H Q => ta σ H fun x H1 => tb σ H1 fun y H2 => r x y H2 fun z H3 => ∃ k, z = .bl k ∧
  (if k = true then tc σ H3 fun w' H4 => r' y w' H4 fun z H5 => ∃ k, z = .bl k ∧ (if k = true then td σ H5 fun v' H6 => r'' w' v' H6 fun z H7 => ∃ k, z = .bl k ∧ Q k H7 else Q false H5) else Q false H3)
theorem pt_chain3 {o1 o2 o3 : CmpOp} {r r' r'' : R2} (ho : OpR X (compareOp o1) r) (ho' : OpR X (compareOp o2) r') (ho'' : OpR X (compareOp o3) r'') (ha : PE X a ta) (hb : PE X b tb) (hc : PE X c tc) (hd : PE X d td)
    (hm : lastMarks [o1, o2, o3] [b, c, d] = false := by with_unfolding_all rfl) : PT X (.Compare a [o1, o2, o3] [b, c, d] pos) (tChain3 r r' r'' ta tb tc td) := by
  refine ⟨fun pins s σ H Q I h => ?_⟩
  refine isTrue_chain (thn (ha.run pins s σ H _ I h) fun v s1 ⟨x, H1, I1, r1, q1⟩ => test_link (thn (hb.run pins s1 σ H1 _ I1 q1) fun u s2 ⟨y, H2, I2, r2, q2⟩ =>
    thn (ho pins s2 σ H2 x y v u _ I2 r1 r2 q2) fun d s3 ⟨z, H3, I3, r3, k, e, q3⟩ => ?_)) hm
  subst e
  cases r3
  refine wpAny_truthy_bool ?_
  cases k with
  | false => exact ite_ff ⟨H3, I3, q3⟩
  | true =>
    refine ite_tt (test_link (thn (hc.run pins s3 σ H3 _ I3 q3) fun w' s4 ⟨z', H4, I4, r4, q4⟩ => thn (ho' pins s4 σ H4 y z' u w' _ I4 r2 r4 q4) fun d' s5 ⟨z2, H5, I5, r5, k2, e2, q5⟩ => ?_))
    subst e2
    cases r5
    refine wpAny_truthy_bool ?_
    cases k2 with
    | false => exact ite_ff ⟨H5, I5, q5⟩
    | true =>
      refine ite_tt (test_last (thn (hd.run pins s5 σ H5 _ I5 q5) fun v' s6 ⟨z3, H6, I6, r6, q6⟩ => thn (ho'' pins s6 σ H6 z' z3 w' v' _ I6 r4 r6 q6) fun d' s7 ⟨z4, H7, I7, r7, k3, e3, q7⟩ => ?_))
      subst e3
      cases r7
      exact wpAny_truthy_bool ⟨H7, I7, q7⟩
end
/-! ### times of all kinds compared -/
def rIC (g : Int → Int → Bool) : R2 := rI0 fun i j => .bl (g i j)
theorem cmp_tm {C : Addr} {x y : V} {t b t' b' : Int} {H : Hp} {g g' : Int → Int → Bool} {Q : VK} (hx : Tm C t b x H) (hy : Tm C t' b' y H) (st : Sm 1900 t) (sb : Sm 1900 b) (st' : Sm 1900 t') (sb' : Sm 1900 b') (hg : ∀ i j, g' i j = g j i)
    (k : ∀ H', Ex H H' → Q (.bl (g (t * b') (t' * b))) H') : (rCmp C (spCmp C g) E0 x y H Q ∨ rCmpR C (spCmp C g') E0 x y H Q) ∨ rIC g x y H Q := by
  rcases hx with hx | ⟨rfl, rfl⟩
  · exact .inl (cmp_two (.inl ⟨hx, hy⟩) st sb st' sb' hg k)
  · rcases hy with hy | ⟨rfl, rfl⟩
    · exact .inl (cmp_two (.inr ⟨⟨rfl, rfl⟩, hy⟩) st sb st' sb' hg k)
    · refine .inr ⟨_, _, rfl, rfl, ?_⟩
      have z := k H (Ex.refl _)
      rw [Int.mul_one, Int.mul_one] at z
      exact z
/-! ### a mark as an object -/
def kF (n : Int) (b e s t : V) : List (Str × V) := putF "stop" t (putF "start" s (putF "end" e (putF "begin" b (putF "tone" (.int n) []))))
theorem kF_look (n : Int) (b e s t : V) (f : Str) : (kF n b e s t).lookup f = if f = "stop" then some t else if f = "start" then some s else if f = "end" then some e else if f = "begin" then some b else if f = "tone" then some (.int n) else none := by
  unfold kF
  rw [lookup_putF, lookup_putF, lookup_putF, lookup_putF, lookup_putF]
  rfl
structure KT where
  n : Int
  b : Int × Int
  e : Int × Int
  s : Int × Int
  t : Int × Int
/-- a Mark object with the five values -/
def MkA (CM C : Addr) (m : KT) (v : V) (H : Hp) : Prop := ∃ a dx b e s t, v = .ref a ∧ H a = some (.ins CM dx (kF m.n b e s t)) ∧ Mo C m.b.1 m.b.2 b H ∧ Mo C m.e.1 m.e.2 e H ∧ Mo C m.s.1 m.s.2 s H ∧ Mo C m.t.1 m.t.2 t H
theorem MkA.ex {CM C : Addr} {m : KT} {v : V} {H H' : Hp} (h : MkA CM C m v H) (x : Ex H H') : MkA CM C m v H' := by
  obtain ⟨a, dx, b, e, s, t, h0, h1, h2, h3, h4, h5⟩ := h
  exact ⟨a, dx, b, e, s, t, h0, x _ _ h1, h2.ex x, h3.ex x, h4.ex x, h5.ex x⟩
def FLt (x y : Int × Int) : Prop := x.1 * y.2 < y.1 * x.2
def FLe (x y : Int × Int) : Prop := x.1 * y.2 ≤ y.1 * x.2
def KT.ok (m : KT) : Prop := FLe m.b m.s ∧ FLt m.s m.t ∧ FLe m.t m.e
def FT (C : Addr) (x : Int × Int) (v : V) (H : Hp) : Prop := Tm C x.1 x.2 v H ∧ 0 < x.2 ∧ Sm 1900 x.1 ∧ Sm 1900 x.2
theorem FT.ex {C : Addr} {x : Int × Int} {v : V} {H H' : Hp} (h : FT C x v H) (e : Ex H H') : FT C x v H' := ⟨h.1.ex e, h.2⟩
def KpP (p : Addr) (H H' : Hp) : Prop := ∀ q o, H q = some o → q ≠ p → H' q = some o
theorem KpP.refl {p : Addr} {H : Hp} : KpP p H H := fun _ _ e _ => e
theorem KpP.upd {p : Addr} {H H' : Hp} {o : HO} (k : KpP p H H') : KpP p H (upd H' p o) := fun q u e hq => by
  rw [upd_ne hq]
  exact k q u e hq
theorem KpP.ex {p : Addr} {H H' H'' : Hp} (k : KpP p H H') (x : Ex H' H'') : KpP p H H'' := fun q u e hq => x _ _ (k q u e hq)
theorem Mo.kp {C p CM dx : Addr} {t b : Int} {v : V} {H H' : Hp} {fs : List (Str × V)} (h : Mo C t b v H) (hp : H p = some (.ins CM dx fs)) (hn : fs.lookup ("top" : Str) = none) (k : KpP p H H') : Mo C t b v H' := by
  obtain ⟨a, d, r, e⟩ := h
  refine ⟨a, d, r, k a _ e fun z => ?_⟩
  subst z
  rw [e] at hp
  cases hp
  rw [mf_top] at hn
  cases hn
theorem Tm.kp {C p CM dx : Addr} {t b : Int} {v : V} {H H' : Hp} {fs : List (Str × V)} (h : Tm C t b v H) (hp : H p = some (.ins CM dx fs)) (hn : fs.lookup ("top" : Str) = none) (k : KpP p H H') : Tm C t b v H' := h.elim (fun h => .inl (h.kp hp hn k)) .inr
/-- Mark(..) by its __init__ -/
def spMark (CM C CN : Addr) : Sp := fun vs H Q E => ∃ (p dx : Addr) (m : KT) (xb xe xs xt : V), vs = [.ref p, .int m.n, xb, xe, xs, xt] ∧ H p = some (.ins CM dx []) ∧ FT C m.b xb H ∧ FT C m.e xe H ∧ ((xs = .non ∧ m.s = m.b) ∨ FT C m.s xs H) ∧ ((xt = .non ∧ m.t = m.e) ∨ FT C m.t xt H) ∧
  (¬ m.ok → ∀ (dd : Addr) (fs : List (Str × V)) (H' : Hp), fs.lookup ("tone" : Str) = some (.int m.n) → fs.lookup ("begin" : Str) = some xb → fs.lookup ("end" : Str) = some xe → H' dd = some (.xd fs) → Ex H H' → E (.ref CN) (some dd) H') ∧
  (m.ok → ∀ (b e s t : V) (H' : Hp), KpP p H H' → H' p = some (.ins CM dx (kF m.n b e s t)) → Mo C m.b.1 m.b.2 b H' → Mo C m.e.1 m.e.2 e H' → Mo C m.s.1 m.s.2 s H' → Mo C m.t.1 m.t.2 t H' → Q .non H')
/-- NoMark(tone, begin, end)'s __init__ -/
def spNoK (K : PySem.W.Frag) (C : Addr) : Sp := fun vs H Q _ => ∃ (a : Addr) (x y z : V), vs = [.ref a, x, y, z] ∧ H a = some (exo a C none) ∧ Plain K H x ∧ Plain K H y ∧ Plain K H z ∧
  ∀ dx, H dx = none → dx ≠ a → Q .non (upd (upd (upd (upd H dx (exd dx [(("tone" : Str), x)])) a (exo a C (some dx))) dx (exd dx [(("begin" : Str), y), (("tone" : Str), x)])) dx (exd dx [(("end" : Str), z), (("begin" : Str), y), (("tone" : Str), x)]))
end Mo

namespace Mo
open PySem PyProof.Rows L2
open Evl (Ex)
/-! ### the fractions of marks -/
def Fsz (x : Int × Int) : Prop := Red x.1 x.2 ∧ Sm 400 x.1 ∧ Sm 400 x.2
structure KT.Sz (m : KT) : Prop where
  b : Fsz m.b
  e : Fsz m.e
  s : Fsz m.s
  t : Fsz m.t
theorem le_lt_tr {x y z : Int × Int} (px : 0 < x.2) (py : 0 < y.2) (pz : 0 < z.2) (h1 : x.1 * y.2 ≤ y.1 * x.2) (h2 : y.1 * z.2 < z.1 * y.2) : x.1 * z.2 < z.1 * x.2 := by
  have a1 : (x.1 * y.2) * z.2 ≤ (y.1 * x.2) * z.2 := Int.mul_le_mul_of_nonneg_right h1 (Int.le_of_lt pz)
  have a2 : (y.1 * z.2) * x.2 < (z.1 * y.2) * x.2 := Int.mul_lt_mul_of_pos_right h2 px
  have e1 : (x.1 * z.2) * y.2 = (x.1 * y.2) * z.2 := by grind
  have e2 : (y.1 * x.2) * z.2 = (y.1 * z.2) * x.2 := by grind
  have e3 : (z.1 * x.2) * y.2 = (z.1 * y.2) * x.2 := by grind
  exact Int.lt_of_mul_lt_mul_right (a := y.2) (by omega) (Int.le_of_lt py)
theorem lt_le_tr {x y z : Int × Int} (px : 0 < x.2) (py : 0 < y.2) (pz : 0 < z.2) (h1 : x.1 * y.2 < y.1 * x.2) (h2 : y.1 * z.2 ≤ z.1 * y.2) : x.1 * z.2 < z.1 * x.2 := by
  have a1 : (x.1 * y.2) * z.2 < (y.1 * x.2) * z.2 := Int.mul_lt_mul_of_pos_right h1 pz
  have a2 : (y.1 * z.2) * x.2 ≤ (z.1 * y.2) * x.2 := Int.mul_le_mul_of_nonneg_right h2 (Int.le_of_lt px)
  have e1 : (x.1 * z.2) * y.2 = (x.1 * y.2) * z.2 := by grind
  have e2 : (y.1 * x.2) * z.2 = (y.1 * z.2) * x.2 := by grind
  have e3 : (z.1 * x.2) * y.2 = (z.1 * y.2) * x.2 := by grind
  exact Int.lt_of_mul_lt_mul_right (a := y.2) (by omega) (Int.le_of_lt py)
theorem KT.ok_lt {m : KT} (h : m.Sz) (o : m.ok) : m.b.1 * m.e.2 < m.e.1 * m.b.2 := le_lt_tr h.b.1.1 h.s.1.1 h.e.1.1 o.1 (lt_le_tr h.s.1.1 h.t.1.1 h.e.1.1 o.2.1 o.2.2)
/-- the list of the four pairs -/
def Times (m : KT) (p : Addr) (H : Hp) : Prop := ∃ qb qe qs qt, H p = some (.lst [.ref qb, .ref qe, .ref qs, .ref qt]) ∧ H qb = some (.tup [.int m.b.1, .int m.b.2]) ∧ H qe = some (.tup [.int m.e.1, .int m.e.2]) ∧ H qs = some (.tup [.int m.s.1, .int m.s.2]) ∧ H qt = some (.tup [.int m.t.1, .int m.t.2])
theorem Times.ex {m : KT} {p : Addr} {H H' : Hp} (h : Times m p H) (e : Ex H H') : Times m p H' := by
  obtain ⟨a, b, c, d, h0, h1, h2, h3, h4⟩ := h
  exact ⟨a, b, c, d, e _ _ h0, e _ _ h1, e _ _ h2, e _ _ h3, e _ _ h4⟩
def spLow : Sp := fun vs H Q _ => ∃ n d : Int, vs = [.int n, .int d] ∧ 0 < d ∧ Sm 1900 n ∧ Sm 1900 d ∧ ∀ (t b : Int) (p : Addr) (H' : Hp), Norm n d t b → Ex H H' → H' p = some (.tup [.int t, .int b]) → Q (.ref p) H'
def spAddF (K : PySem.W.Frag) : Sp := fun vs H Q _ => ∃ (pa pb : Addr) (n1 d1 n2 d2 : Int), vs = [.ref pa, .ref pb] ∧ SqT K H pa [.int n1, .int d1] ∧ SqT K H pb [.int n2, .int d2] ∧ 0 < d1 ∧ 0 < d2 ∧ Sm 900 n1 ∧ Sm 900 d1 ∧ Sm 900 n2 ∧ Sm 900 d2 ∧
  ∀ (t b : Int) (p : Addr) (H' : Hp), Norm (n1 * d2 + n2 * d1) (d1 * d2) t b → Ex H H' → H' p = some (.tup [.int t, .int b]) → Q (.ref p) H'
def spUnder (K : PySem.W.Frag) : Sp := fun vs H Q _ => ∃ (pa pb : Addr) (n1 d1 n2 d2 : Int), vs = [.ref pa, .ref pb] ∧ SqT K H pa [.int n1, .int d1] ∧ SqT K H pb [.int n2, .int d2] ∧ Sm 900 n1 ∧ Sm 900 d1 ∧ Sm 900 n2 ∧ Sm 900 d2 ∧ Q (.bl (decide (n1 * d2 < n2 * d1))) H
def spValid : Sp := fun vs H Q _ => ∃ (p : Addr) (m : KT), vs = [.ref p] ∧ Times m p H ∧ m.Sz ∧ ∀ k : Bool, (k = true ↔ m.ok) → Q (.bl k) H
/-- a fraction passed as an int or as a moment -/
def Psd (C : Addr) (x : Int × Int) (i : Int) (v : V) (H : Hp) : Prop := (x.2 = 1 ∧ i = 1 ∧ v = .int x.1) ∨ (¬ (x.2 = 1 ∧ i = 1) ∧ Mo C x.1 x.2 v H)
theorem Psd.ex {C : Addr} {x : Int × Int} {i : Int} {v : V} {H H' : Hp} (h : Psd C x i v H) (e : Ex H H') : Psd C x i v H' := h.imp id fun h => ⟨h.1, h.2.ex e⟩
theorem Psd.ft {C : Addr} {x : Int × Int} {i : Int} {v : V} {H : Hp} (h : Psd C x i v H) (z : Fsz x) : FT C x v H := by
  refine ⟨?_, z.1.1, z.2.1.mono (by decide), z.2.2.mono (by decide)⟩
  rcases h with ⟨h1, _, h2⟩ | ⟨_, h⟩
  · exact .inr ⟨h2, h1⟩
  · exact .inl h
def spPassed (C : Addr) : Sp := fun vs H Q _ => ∃ (p : Addr) (x : Int × Int) (i : Int), vs = [.ref p, .int i] ∧ H p = some (.tup [.int x.1, .int x.2]) ∧ Fsz x ∧ ∀ v H', Ex H H' → Psd C x i v H' → Q v H'
/-- Mark(..) is called -/
theorem mark_rd {CM C CK : Addr} {m : KT} {xb xe xs xt : V} {H0 : Hp} {Q : VK} {E : XK} (hb : FT C m.b xb H0) (he : FT C m.e xe H0) (hs : (xs = .non ∧ m.s = m.b) ∨ FT C m.s xs H0) (ht : (xt = .non ∧ m.t = m.e) ∨ FT C m.t xt H0)
    (kE : ¬ m.ok → ∀ (dd : Addr) (fs : List (Str × V)) (H' : Hp), fs.lookup ("tone" : Str) = some (.int m.n) → fs.lookup ("begin" : Str) = some xb → fs.lookup ("end" : Str) = some xe → H' dd = some (.xd fs) → Ex H0 H' → E (.ref CK) (some dd) H')
    (kQ : m.ok → ∀ (v : V) (H' : Hp), Ex H0 H' → MkA CM C m v H' → Q v H') :
    ∀ x dx, H0 x = none → H0 dx = none → dx ≠ x → spMark CM C CK [.ref x, .int m.n, xb, xe, xs, xt] (upd (upd H0 dx (.own x)) x (.ins CM dx [])) (fun v H2 => v = .non ∧ Q (.ref x) H2) E := fun x dx n1 n2 n3 => by
  have e0 : Ex H0 (upd (upd H0 dx (.own x)) x (.ins CM dx [])) := fun q o h => by
    rw [upd_ne (ne_of_none h n1), upd_ne (ne_of_none h n2)]
    exact h
  refine ⟨x, dx, m, xb, xe, xs, xt, rfl, upd_same, hb.ex e0, he.ex e0, hs.imp id (fun h => h.ex e0), ht.imp id (fun h => h.ex e0), fun hn dd fs H' l1 l2 l3 h e => kE hn dd fs H' l1 l2 l3 h (e0.trans e), fun ho b e s t H' kp hp mb me ms mt => ⟨rfl, kQ ho _ H' (fun q o h => kp q o (e0 _ _ h) (ne_of_none h n1)) ⟨x, dx, b, e, s, t, rfl, hp, mb, me, ms, mt⟩⟩⟩
def spMarkL (CM C CK : Addr) : Sp := fun vs H Q E => ∃ (p : Addr) (m : KT) (i lf : Int), vs = [.int m.n, .ref p, .int i, .int lf] ∧ Times m p H ∧ m.Sz ∧ ((lf = 0 ∧ m.s = m.b ∧ m.t = m.e) ∨ (lf = 1 ∧ m.s = m.b) ∨ (lf = 2 ∧ m.t = m.e) ∨ lf = 3) ∧
  (m.ok → ∀ (v : V) (H' : Hp), Ex H H' → MkA CM C m v H' → Q v H') ∧
  (¬ m.ok → ∀ (dd : Addr) (fs : List (Str × V)) (xb xe : V) (H' : Hp), Ex H H' → Psd C m.b i xb H' → Psd C m.e i xe H' → fs.lookup ("tone" : Str) = some (.int m.n) → fs.lookup ("begin" : Str) = some xb → fs.lookup ("end" : Str) = some xe → H' dd = some (.xd fs) → E (.ref CK) (some dd) H')
theorem red_norm {n d t b : Int} (N : Norm n d t b) (r : Red n d) : t = n ∧ b = d := red_eq N.red r N.eq
/-- Mark(..) == -/
def KT.same (m m' : KT) : Prop := m = m'
def spKEq (CM C : Addr) : Sp := fun vs H Q _ => ∃ (x y : V) (m m' : KT), vs = [x, y] ∧ MkA CM C m x H ∧ MkA CM C m' y H ∧ m.Sz ∧ m'.Sz ∧ ∀ (k : Bool) (H' : Hp), (k = true ↔ m = m') → Ex H H' → Q (.bl k) H'
end Mo

namespace Mo
open PySem PyProof.Rows L2
open Evl (Ex)
theorem eqG_or {X : Cx} {n : Nat} {D D' : Eqv} (h : EqG X n D) (h' : EqG X n D') : EqG X n (fun x y H => D x y H ∨ D' x y H) := fun A pins s σ H x y u v sb I rx ry d => by
  rcases d with d | d
  · exact h A pins s σ H x y u v sb I rx ry d
  · exact h' A pins s σ H x y u v sb I rx ry d
theorem mon_or {D D' : Eqv} (h : Mon D) (h' : Mon D') : Mon (fun x y H => D x y H ∨ D' x y H) := fun x y H H' e d => d.imp (h x y H H' e) (h' x y H H' e)
/-- the same moment twice -/
def RMo (C : Addr) : Addr → Addr → Hp → Prop := fun a b H => ∃ t d : Int, Mo C t d (.ref a) H ∧ Mo C t d (.ref b) H
def DEl (C : Addr) : Eqv := fun x y H => DFlat x y H ∨ DIns C (RMo C) x y H
theorem mon_El {C : Addr} : Mon (DEl C) := mon_or mon_flat (mon_ins fun a b H H' e h => by
  obtain ⟨t, d, h1, h2⟩ := h
  exact ⟨t, d, h1.ex e, h2.ex e⟩)
theorem eq_imp {C : Addr} : ∀ vs H Q E, spEq (RMo C) vs H Q E → spEq2 C vs H Q E := fun vs H Q E h => by
  obtain ⟨a, b, rfl, ⟨t, d, h1, h2⟩, k⟩ := h
  exact ⟨_, _, t, d, rfl, h1, .inl ⟨t, d, h2, fun c H' e hc => by
    obtain rfl : c = true := hc.mpr ⟨rfl, rfl⟩
    exact k H' e⟩⟩
theorem op_eqEl {X : Cx} {C fE : Addr} {dE : FuncData} (heq : PySem.W.findIn X.K (.ref C) "__eq__" = some (some (.ref fE))) (heqf : PySem.W.isFn X.K (.ref fE) = true) (EF : FnOk X.prog X.w X.K X.mg X.base CX0 1 fE dE ["self", "other"] (spEq2 C)) (Eb : Binds X.K dE ["self", "other"] []) (hr : Room 2 X.A) :
    OpR X (compareOp .Eq) (rEqG (DList (DEl C))) := op_eqG (rcG_list mon_El (eqG_or (eqG_flat.mono (by decide)) (eqG_ins (EF.imp eq_imp) heq heqf Eb pass0))) hr
theorem psd_el {C : Addr} {x : Int × Int} {i : Int} {v v' : V} {H : Hp} (h : Psd C x i v H) (h' : Psd C x i v' H) : DEl C v v' H := by
  rcases h with ⟨a1, a2, rfl⟩ | ⟨a, h⟩
  · rcases h' with ⟨_, _, rfl⟩ | ⟨b, _⟩
    · exact .inl ⟨rfl, rfl, by simp [eqV]⟩
    · exact absurd ⟨a1, a2⟩ b
  · rcases h' with ⟨b1, b2, _⟩ | ⟨_, h'⟩
    · exact absurd ⟨b1, b2⟩ a
    · obtain ⟨p, d, rfl, e⟩ := id h
      obtain ⟨q, d', rfl, e'⟩ := id h'
      exact .inr ⟨p, q, _, _, _, _, rfl, rfl, e, e', _, _, h, h'⟩
theorem kt_ext {m m' : KT} : m = m' ↔ m.n = m'.n ∧ m.b = m'.b ∧ m.e = m'.e ∧ m.s = m'.s ∧ m.t = m'.t := by
  constructor
  · rintro rfl
    exact ⟨rfl, rfl, rfl, rfl, rfl⟩
  · obtain ⟨a, b, c, d, e⟩ := m
    obtain ⟨a', b', c', d', e'⟩ := m'
    rintro ⟨rfl, rfl, rfl, rfl, rfl⟩
    rfl
def spKEq2 (CM C : Addr) : Sp := fun vs H Q _ => ∃ (x y : V) (m m' : KT), vs = [x, y] ∧ MkA CM C m x H ∧ MkA CM C m' y H ∧ ∀ (k : Bool) (H' : Hp), (k = true ↔ m = m') → Ex H H' → Q (.bl k) H'
theorem kf_tone {n : Int} {b e s t : V} : (kF n b e s t).lookup ("tone" : Str) = some (.int n) := by rw [kF_look, if_neg (by decide +kernel), if_neg (by decide +kernel), if_neg (by decide +kernel), if_neg (by decide +kernel), if_pos rfl]
theorem kf_begin {n : Int} {b e s t : V} : (kF n b e s t).lookup ("begin" : Str) = some b := by rw [kF_look, if_neg (by decide +kernel), if_neg (by decide +kernel), if_neg (by decide +kernel), if_pos rfl]
theorem kf_end {n : Int} {b e s t : V} : (kF n b e s t).lookup ("end" : Str) = some e := by rw [kF_look, if_neg (by decide +kernel), if_neg (by decide +kernel), if_pos rfl]
theorem kf_start {n : Int} {b e s t : V} : (kF n b e s t).lookup ("start" : Str) = some s := by rw [kF_look, if_neg (by decide +kernel), if_pos rfl]
theorem kf_stop {n : Int} {b e s t : V} : (kF n b e s t).lookup ("stop" : Str) = some t := by rw [kF_look, if_pos rfl]
/-- what _law_tried tells -/
def spTried (CM C : Addr) : Sp := fun vs H Q _ => ∃ (p : Addr) (m : KT) (i lf : Int), vs = [.int m.n, .ref p, .int i, .int lf] ∧ Times m p H ∧ m.Sz ∧ ((lf = 0 ∧ m.s = m.b ∧ m.t = m.e) ∨ (lf = 1 ∧ m.s = m.b) ∨ (lf = 2 ∧ m.t = m.e) ∨ lf = 3) ∧
  ∀ (q : Addr) (v : V) (H' : Hp), Ex H H' → H' q = some (.tup [.bl true, v]) → ((m.ok ∧ MkA CM C m v H') ∨ (¬ m.ok ∧ v = .non)) → Q (.ref q) H'
theorem Fsz.hold {x : Int × Int} (h : Fsz x) : Sm 4000 x.1 ∧ Sm 4000 x.2 := ⟨h.2.1.mono (by decide), h.2.2.mono (by decide)⟩
end Mo

namespace Mo
open PySem PyProof.Rows L2
open Evl (Ex)
theorem MkA.nn {CM C : Addr} {m : KT} {v : V} {H : Hp} (h : MkA CM C m v H) : v ≠ .non := fun z => by
  obtain ⟨a, dx, b, e, s, t, h0, _⟩ := h
  rw [h0] at z
  cases z
theorem MkA.isC {CM C : Addr} {m : KT} {v : V} {H : Hp} (h : MkA CM C m v H) : IsC CM v H := by
  obtain ⟨a, dx, b, e, s, t, h0, h1, _⟩ := h
  exact ⟨a, dx, _, h0, h1⟩
theorem MkA.par {CM C : Addr} {m : KT} {v : V} {H : Hp} (h : MkA CM C m v H) : Par CM H v := by
  obtain ⟨a, dx, b, e, s, t, rfl, h1, _⟩ := h
  exact .ins h1
def F80 (x : Int × Int) : Prop := Red x.1 x.2 ∧ Sm 80 x.1 ∧ Sm 80 x.2
theorem F80.fsz {x : Int × Int} (h : F80 x) : Fsz x := ⟨h.1, h.2.1.mono (by decide), h.2.2.mono (by decide)⟩
theorem tupK {H : Hp} {q l : Addr} {xs ys zs : List V} (h : H q = some (.tup xs)) (e : H l = some (.lst ys)) : L2.upd H l (.lst zs) q = some (.tup xs) := by
  have : q ≠ l := fun w => by
    rw [w, e] at h
    cases h
  rw [upd_ne this]
  exact h
def dTimes (m : KT) : PyData := .list [.tuple [.int m.b.1, .int m.b.2], .tuple [.int m.e.1, .int m.e.2], .tuple [.int m.s.1, .int m.s.2], .tuple [.int m.t.1, .int m.t.2]]
theorem dp_times {K : PySem.W.Frag} {m : KT} {p : Addr} {H : Hp} (h : Times m p H) : Dp K H (.ref p) (dTimes m) := by
  obtain ⟨a, b, c, d, h0, h1, h2, h3, h4⟩ := h
  have two : ∀ (i j : Int), DpAll K H [V.int i, V.int j] [.int i, .int j] := fun i j => .cons (.int i) (.cons (.int j) .nil)
  exact .lst (SqL.of h0) (.cons (.tup (SqT.of h1) (two _ _)) (.cons (.tup (SqT.of h2) (two _ _)) (.cons (.tup (SqT.of h3) (two _ _)) (.cons (.tup (SqT.of h4) (two _ _)) .nil))))
theorem eqv_times {m m' : KT} : PyData.eqv (dTimes m) (dTimes m') = true ↔ m.b = m'.b ∧ m.e = m'.e ∧ m.s = m'.s ∧ m.t = m'.t := by
  simp [dTimes, PyData.eqv, PyData.eqvAll, Prod.ext_iff]
/-- a list of pairs that are fractions in lowest terms -/
inductive PrL : List V → List (Int × Int) → Hp → Prop where
  | nil {H : Hp} : PrL [] [] H
  | cons {q : Addr} {x : Int × Int} {xs : List V} {fs : List (Int × Int)} {H : Hp} (h : H q = some (.tup [.int x.1, .int x.2])) (z : F80 x) (t : PrL xs fs H) : PrL (.ref q :: xs) (x :: fs) H
theorem PrL.ex : ∀ {xs : List V} {fs : List (Int × Int)} {H H' : Hp}, PrL xs fs H → Ex H H' → PrL xs fs H'
  | _, _, _, _, .nil, _ => .nil
  | _, _, _, _, .cons h z t, e => .cons (e _ _ h) z (t.ex e)
theorem PrL.len : ∀ {xs : List V} {fs : List (Int × Int)} {H : Hp}, PrL xs fs H → xs.length = fs.length
  | _, _, _, .nil => rfl
  | _, _, _, .cons h z t => by rw [List.length_cons, List.length_cons, t.len]
theorem PrL.snoc : ∀ {xs : List V} {fs : List (Int × Int)} {H : Hp} {q : Addr} {x : Int × Int}, PrL xs fs H → H q = some (.tup [.int x.1, .int x.2]) → F80 x → PrL (xs ++ [.ref q]) (fs ++ [x]) H
  | _, _, _, _, _, .nil, h, z => .cons h z .nil
  | _, _, _, _, _, .cons h z t, h', z' => .cons h z (t.snoc h' z')
theorem PrL.upd : ∀ {xs : List V} {fs : List (Int × Int)} {H : Hp} {l : Addr} {ys zs : List V}, PrL xs fs H → H l = some (.lst ys) → PrL xs fs (L2.upd H l (.lst zs))
  | _, _, _, _, _, _, .nil, _ => .nil
  | _, _, _, l, _, _, .cons (q := q) h z t, e => .cons (by
      have : q ≠ l := fun w => by
        rw [w, e] at h
        cases h
      rw [upd_ne this]
      exact h) z (t.upd e)
theorem PrL.get : ∀ {xs : List V} {fs : List (Int × Int)} {H : Hp} {i : Nat} {x : V}, PrL xs fs H → xs[i]? = some x → ∃ q y, x = .ref q ∧ fs[i]? = some y ∧ H q = some (.tup [.int y.1, .int y.2]) ∧ F80 y
  | _, _, _, 0, _, .cons h z t, e => by cases e; exact ⟨_, _, rfl, rfl, h, z⟩
  | _, _, _, i + 1, _, .cons h z t, e => t.get (i := i) e
theorem PrL.four {xs : List V} {fs : List (Int × Int)} {H : Hp} (h : PrL xs fs H) (l : fs.length = 4) : ∃ (q0 q1 q2 q3 : Addr) (x0 x1 x2 x3 : Int × Int), xs = [.ref q0, .ref q1, .ref q2, .ref q3] ∧ fs = [x0, x1, x2, x3] ∧
    H q0 = some (.tup [.int x0.1, .int x0.2]) ∧ H q1 = some (.tup [.int x1.1, .int x1.2]) ∧ H q2 = some (.tup [.int x2.1, .int x2.2]) ∧ H q3 = some (.tup [.int x3.1, .int x3.2]) ∧ F80 x0 ∧ F80 x1 ∧ F80 x2 ∧ F80 x3 := by
  cases h with
  | nil => cases l
  | cons h0 z0 t =>
    cases t with
    | nil => simp at l
    | cons h1 z1 t =>
      cases t with
      | nil => simp at l
      | cons h2 z2 t =>
        cases t with
        | nil => simp at l
        | cons h3 z3 t =>
          cases t with
          | nil => exact ⟨_, _, _, _, _, _, _, _, rfl, rfl, h0, h1, h2, h3, z0, z1, z2, z3⟩
          | cons h4 z4 t => simp at l
theorem tyes_if {σ : L2.St} {H : Hp} {A B : Hp → Prop} (h : A H) : tYes σ H (fun b H3 => if b = true then A H3 else B H3) := by
  show (if true = true then A H else B H)
  exact L2.iteT h
theorem ten_of {ys : List Int} (h : ys.length = 10) : ∃ a b c d e f g i j k, ys = [a, b, c, d, e, f, g, i, j, k] := match ys, h with | [a, b, c, d, e, f, g, i, j, k], _ => ⟨a, b, c, d, e, f, g, i, j, k, rfl⟩
theorem fsz_of {n d t b : Int} {k j : Nat} (N : Norm n d t b) (hn : Sm k n) (hd : Sm j d) (hk : k ≤ 80) (hj : j ≤ 80) : F80 (t, b) := ⟨N.red, (N.st hn).mono hk, (N.sb hd).mono hj⟩
end Mo

namespace Mo
open PySem L2
open Evl (Ex)
def top (i : Nat) : Stmt := PySem.Challenge.pw_anytune_k08_marks.main.body.getD i (.Pass ⟨0, 0, 0, 0⟩)
structure Txt (K : PySem.W.Frag) (mg : Str → Option Value) (C : Addr) : Prop where
  len : mg "len" = none
  abs : mg "abs" = none
  int : mg "int" = none
  bool : mg "bool" = none
  isi : mg "isinstance" = none
  range : mg "range" = none
  gcd : mg "gcd" = some (.builtin "math.gcd")
  mgC : mg "Moment" = some (.ref C)
  cl : Cls K C
  nT : NoAttr K C "top"
  nB : NoAttr K C "bottom"
  cls : PySem.W.findIn K (.ref C) "__class__" = some (some (.builtin "object.__class__"))
  clg : PySem.W.specialIn K (.builtin "object.__class__") "__get__" = some (some (.builtin "getset_descriptor.__get__"))
  clt : PySem.W.takesIn K (.builtin "object.__class__") = some true
  obj : PySem.W.mroIn K C (.type "object") = some true
  isC : PySem.W.kitOne K (.ref C) (.ref C) = some true
  isI : PySem.W.kitOne K (.ref C) (.type "int") = some false
  iI : PySem.W.kitOne K (.type "int") (.ref C) = some false
  lst : mg "list" = none
  dct : mg "dict" = none
  nL : PySem.W.kitOne K (.ref C) (.type "list") = some false
  nD : PySem.W.kitOne K (.ref C) (.type "dict") = some false
section
variable {P : Program} {w : World} {K : PySem.W.Frag} {mg : Str → Option Value} {base : Heap} {C CN : Addr}
abbrev sCe : Stmt := top 20
theorem scCe : FnScope ["_law_script", "_law_k"] ["_law_script", "_law_k"] (defScope sCe) := ⟨rfl, rfl, rfl, by decide +kernel, rfl, by decide +kernel, by decide +kernel⟩
theorem ok_cell {f : Addr} {fd : FuncData} (F : Fun K "_law_cell" "_law_cell" sCe f fd) (T : Txt K mg C) : FnOk P w K mg base CX0 1 f fd ["_law_script", "_law_k"] (spCell K) := by
  refine F.ok scCe (fun vs H Q E h => ?_) (fun cdv A outer s H vs Q E hr h => ?_)
  · obtain ⟨l, ns, j, rfl, _⟩ := h
    rfl
  · obtain ⟨l, ns, j, rfl, hS, h0, hl, k⟩ := h
    refine ⟨_, (pss_cons (ps_if (pt_cmpR op_lt (pv 1) (pe_callB call_len rfl T.len PySem.boot_len (pa_cons (pv 0) pa_nil)) (nomark _)) (pss_one (ps_ret (pe_ix ix_list (pv 0) (pv 1) (fun _ _ => rfl)))) pss_nil)
 (pss_one (ps_ret pe_int))), ?_⟩
    refine ⟨_, rfl, _, rfl, _, _, rfl, .inl ⟨_, hS, rfl⟩, _, _, rfl, rfl, _, rfl, ?_⟩
    refine ite2 (fun hc => ?_) (fun hc => k 0)
    have hj : j < (ns.length : Int) := by
      have := of_decide_eq_true hc
      rw [List.length_map] at this
      exact this
    obtain ⟨i, rfl⟩ : ∃ i : Nat, j = (i : Int) := ⟨j.toNat, by omega⟩
    have hi : i < ns.length := by omega
    refine ⟨_, rfl, _, rfl, l, _, _, .int ns[i], rfl, rfl, hS, atI_nat (by rw [List.getElem?_map, List.getElem?_eq_getElem hi]; rfl), k _⟩
abbrev sWh : Stmt := top 28
theorem scWh : FnScope ["_law_cell_here", "_law_most"] ["_law_cell_here", "_law_most"] (defScope sWh) := ⟨rfl, rfl, rfl, by decide +kernel, rfl, by decide +kernel, by decide +kernel⟩
theorem ok_whole {f : Addr} {fd : FuncData} (F : Fun K "_law_whole" "_law_whole" sWh f fd) (T : Txt K mg C) : FnOk P w K mg base CX0 1 f fd ["_law_cell_here", "_law_most"] spWhole := by
  refine F.ok scWh (fun vs H Q E h => ?_) (fun cdv A outer s H vs Q E hr h => ?_)
  · obtain ⟨c, m, rfl, _⟩ := h
    rfl
  · obtain ⟨c, m, rfl, hm, hs, k⟩ := h
    have k2 : Q (.int (c % (2 * m + 1) - m)) H := by
      have h1 := Int.emod_nonneg c (show 2 * m + 1 ≠ 0 by omega)
      have h2 := Int.emod_lt_of_pos c (show 0 < 2 * m + 1 by omega)
      exact k _ (by omega) (by omega)
    have hc2 : CMulW 2 m := Sm.cmul (k := 2) (j := 1000) (by show (2 : Int).natAbs < 2 ^ 2; decide) hs
    refine ⟨_, (pss_cons (ps_if (pt_chain op_le op_le (pe_un un_neg (pv 1)) (pv 0) (pv 1)) (pss_one (ps_ret (pv 0))) pss_nil)
 (pss_one (ps_ret (pe_op op_sub (pe_op op_mod (pe_callTy call_int1 rfl T.int PyProof.Rows.boot_int (pa_cons (pv 0) pa_nil)) (pe_op op_add (pe_op op_mulW pe_int (pv 1)) pe_int)) (pv 1))))), ?_⟩
    refine ⟨_, rfl, _, rfl, _, rfl, _, _, rfl, rfl, _, rfl, ?_⟩
    refine ite2 (fun e1 => ?_) (fun e1 => ⟨_, rfl, iteF ?_⟩)
    · refine ⟨_, rfl, _, _, rfl, rfl, _, rfl, ?_⟩
      refine ite2 (fun e2 => ⟨_, rfl, k c (of_decide_eq_true e1) (of_decide_eq_true e2)⟩) (fun e2 => ?_)
      exact ⟨_, rfl, .inl ⟨_, rfl, _, rfl, _, _, rfl, rfl, hc2, _, _, rfl, rfl, _, _, rfl, rfl, (by show 0 < 2 * m + 1; omega), _, rfl, _, _, rfl, rfl, k2⟩⟩
    · exact ⟨_, rfl, .inl ⟨_, rfl, _, rfl, _, _, rfl, rfl, hc2, _, _, rfl, rfl, _, _, rfl, rfl, (by show 0 < 2 * m + 1; omega), _, rfl, _, _, rfl, rfl, k2⟩⟩
abbrev sGc : Stmt := top 22
theorem scGc : FnScope ["_law_a", "_law_b", "_law_rest"] ["_law_a", "_law_b"] (defScope sGc) := ⟨rfl, rfl, rfl, by decide +kernel, rfl, by decide +kernel, by decide +kernel⟩
theorem ok_gcd {f : Addr} {fd : FuncData} (F : Fun K "_law_gcd" "_law_gcd" sGc f fd) (T : Txt K mg C) : FnOk P w K mg base CX0 1 f fd ["_law_a", "_law_b"] spGcd := by
  refine F.ok scGc (fun vs H Q E h => ?_) (fun cdv A outer s H vs Q E hr h => ?_)
  · obtain ⟨a, b, rfl, _⟩ := h
    rfl
  · obtain ⟨a, b, rfl, ha, hb, k⟩ := h
    refine ⟨_, (pss_cons (ps_set (i := 0) scGc.nd rfl (Or.inl rfl) (pe_callB call_abs rfl T.abs PyProof.Rows.boot_abs (pa_cons (pv 0) pa_nil)))
 (pss_cons (ps_set (i := 1) scGc.nd rfl (Or.inl rfl) (pe_callB call_abs rfl T.abs PyProof.Rows.boot_abs (pa_cons (pv 1) pa_nil)))
 (pss_cons (ps_while PassesOwn.never (pt_cmpR op_gt (pv 1) pe_int (nomark _)) (pss_cons (ps_set (i := 2) scGc.nd rfl (Or.inl rfl) (pe_op op_sub (pv 0) (pe_op op_mulW (pe_op op_fdivNW (pv 0) (pv 1)) (pv 1))))
 (pss_cons (ps_set (i := 0) scGc.nd rfl (Or.inl rfl) (pv 1))
 (pss_one (ps_set (i := 1) scGc.nd rfl (Or.inl rfl) (pv 2))))))
 (pss_one (ps_ret (pv 0)))))), ?_⟩
    refine ⟨_, rfl, _, rfl, _, rfl, _, rfl, ?_⟩
    have ha' : Sm 8000 (if a < 0 then -a else a) := by split; exact ha.neg; exact ha
    have hb' : Sm 8000 (if b < 0 then -b else b) := by split; exact hb.neg; exact hb
    have h0 : 0 ≤ (if a < 0 then -a else a) ∧ 0 ≤ (if b < 0 then -b else b) := by constructor <;> (split <;> omega)
    have hg : Int.gcd (if a < 0 then -a else a) (if b < 0 then -b else b) = Int.gcd a b := by
      split <;> split <;> simp [Int.gcd_neg, Int.neg_gcd]
    generalize (if a < 0 then -a else a) = x at *
    generalize (if b < 0 then -b else b) = y at *
    refine ⟨fun m σ H' => ∃ (x y : Int) (r : Option V), σ = [some (.int x), some (.int y), r] ∧ H = H' ∧ 0 ≤ x ∧ 0 ≤ y ∧ Sm 8000 x ∧ Sm 8000 y ∧ Int.gcd x y = Int.gcd a b ∧ m = y.toNat, ⟨y.toNat, x, y, none, rfl, rfl, h0.1, h0.2, ha', hb', hg, rfl⟩, ?_⟩
    rintro m σ H' ⟨x, y, r, rfl, rfl, x0, y0, hx, hy, hg, rfl⟩
    refine ⟨_, rfl, _, _, rfl, rfl, _, rfl, ?_⟩
    refine ite2 (fun e1 => ?_) (fun e1 => ?_)
    · have hp : 0 < y := of_decide_eq_true e1
      have q1 : (x.fdiv y).natAbs ≤ x.natAbs := by
        rw [Int.fdiv_eq_ediv_of_nonneg x (by omega)]
        exact Int.natAbs_ediv_le_natAbs _ _
      have cm : CMulW (x.fdiv y) y := (hx.le q1).cmul hy
      have e2 : x - x.fdiv y * y = x % y := by
        rw [Int.fdiv_eq_ediv_of_nonneg x (by omega), Int.emod_def, Int.mul_comm]
      have l1 := Int.emod_nonneg x (show y ≠ 0 by omega)
      have l2 := Int.emod_lt_of_pos x hp
      refine ⟨fun σ' H' => ∃ m', m' < y.toNat ∧ ∃ (x y : Int) (r : Option V), σ' = [some (.int x), some (.int y), r] ∧ H = H' ∧ 0 ≤ x ∧ 0 ≤ y ∧ Sm 8000 x ∧ Sm 8000 y ∧ Int.gcd x y = Int.gcd a b ∧ m' = y.toNat, fun _ _ z => z, ?_⟩
      refine ⟨_, rfl, _, rfl, _, rfl, _, _, rfl, rfl, hy.cdiv (by omega), _, rfl, _, _, rfl, rfl, cm, _, _, rfl, rfl, _, rfl, _, rfl, ?_⟩
      refine ⟨(x % y).toNat, by omega, y, x % y, some (.int (x % y)), ?_, rfl, by omega, l1, hy, hy.le (by omega), ?_, rfl⟩
      · show [some (V.int y), some (V.int (x - x.fdiv y * y)), some (V.int (x - x.fdiv y * y))] = _
        rw [e2]
      · rw [← hg, Int.gcd_comm]
        show Nat.gcd (x % y).natAbs y.natAbs = Nat.gcd x.natAbs y.natAbs
        rw [Int.natAbs_emod_of_nonneg x0, ← Nat.gcd_rec, Nat.gcd_comm]
    · have hz : y = 0 := by
        have := of_decide_eq_false (Bool.eq_false_iff.mpr e1)
        omega
      subst hz
      refine ⟨_, rfl, ?_⟩
      have e3 : x = ((Int.gcd a b : Nat) : Int) := by
        rw [← hg]
        show x = ((Nat.gcd x.natAbs 0 : Nat) : Int)
        rw [Nat.gcd_zero_right]
        omega
      rw [e3]
      exact k
abbrev sIi : Stmt := top 26
theorem scIi : FnScope ["_law_actual"] ["_law_actual"] (defScope sIi) := ⟨rfl, rfl, rfl, by decide +kernel, rfl, by decide +kernel, by decide +kernel⟩
theorem ok_isint {f : Addr} {fd : FuncData} (F : Fun K "_law_is_int" "_law_is_int" sIi f fd) (T : Txt K mg C) : FnOk P w K mg base CX0 1 f fd ["_law_actual"] spIsInt := by
  refine F.ok scIi (fun vs H Q E h => ?_) (fun cdv A outer s H vs Q E hr h => ?_)
  · obtain ⟨a, rfl, _⟩ := h
    rfl
  · obtain ⟨a, rfl, k⟩ := h
    refine ⟨_, (pss_one (ps_ret (pe_and (pe_callB (r := rIsi K) call_isi rfl T.isi PyProof.Rows.boot_isinstance (pa_cons (pv 0) (pa_cons (pe_bltn (v := .ty "int") rfl T.int PyProof.Rows.boot_int rfl) pa_nil))) (pe_one (pe_not (pe_callB (r := rIsi K) call_isi rfl T.isi PyProof.Rows.boot_isinstance (pa_cons (pv 0) (pa_cons (pe_bltn (v := .ty "bool") rfl T.bool PyProof.Rows.boot_bool rfl) pa_nil)))))))), ?_⟩
    refine ⟨_, rfl, _, _, _, _, true, rfl, .ty "int", .base (.int a), kit_ty (by decide +kernel), true, rfl, iteT ?_⟩
    exact ⟨_, rfl, _, _, _, _, false, rfl, .ty "bool", .base (.int a), kit_ty (by decide +kernel), false, rfl, k _ (Ex.refl _)⟩
abbrev sHo : Stmt := top 27
theorem scHo : FnScope ["_law_actual", "_law_top", "_law_bottom"] ["_law_actual", "_law_top", "_law_bottom"] (defScope sHo) := ⟨rfl, rfl, rfl, by decide +kernel, rfl, by decide +kernel, by decide +kernel⟩
theorem tyM {t b : Int} {v : V} {H : Hp} (T : Txt K mg C) (h : Mo C t b v H) : TyX K H v (.ref C) := by
  obtain ⟨a, dx, rfl, e⟩ := h
  exact .base (.ins e T.cl T.cls T.clg T.clt T.obj)
theorem ok_holds {f : Addr} {fd : FuncData} (F : Fun K "_law_holds" "_law_holds" sHo f fd) (T : Txt K mg C) (OI : Ok P w K mg base CX0 1 "_law_is_int" ["_law_actual"] spIsInt) (OG : Ok P w K mg base CX0 1 "_law_gcd" ["_law_a", "_law_b"] spGcd) :
    FnOk P w K mg base CX0 2 f fd ["_law_actual", "_law_top", "_law_bottom"] (spHolds C) := by
  obtain ⟨fIi, fdIi, GIi, mIi, kIi, bIi⟩ := OI
  obtain ⟨fGc, fdGc, GGc, mGc, kGc, bGc⟩ := OG
  refine F.ok scHo (fun vs H Q E h => ?_) (fun cdv A outer s H vs Q E hr h => ?_)
  · obtain ⟨x, t, b, n, d, rfl, _⟩ := h
    rfl
  · obtain ⟨x, t, b, n, d, rfl, hM, hR, he, st, sb, sn, sd, k⟩ := h
    have ty := tyM T hM
    obtain ⟨a, dx, rfl, hM⟩ := hM
    refine ⟨_, (pss_cons (ps_if (PW.pt (pw_or (pt_not (pt_val (pe_callB (r := rIsi K) call_isi rfl T.isi PyProof.Rows.boot_isinstance (pa_cons (pv 0) (pa_cons (pe_glob (v := .ref C) rfl T.mgC rfl) pa_nil))))) (pw_or (pt_not (pt_val (pe_call GIi (hr.mono (by decide)) rfl mIi kIi bIi .nil pass0 (pa_cons (pe_fld (pv 0) rfl) pa_nil)))) (pw_or1 (pt_not (pt_val (pe_call GIi (hr.mono (by decide)) rfl mIi kIi bIi .nil pass0 (pa_cons (pe_fld (pv 0) rfl) pa_nil)))))))) (pss_one (ps_ret pe_bl)) pss_nil)
 (pss_cons (ps_if (PW.pt (pw_or (pt_cmpR op_lt (pe_fld (pv 0) rfl) pe_int (nomark _)) (pw_or1 (pt_cmpR op_ne (pe_call GGc (hr.mono (by decide)) rfl mGc kGc bGc .nil pass0 (pa_cons (pe_fld (pv 0) rfl) (pa_cons (pe_fld (pv 0) rfl) pa_nil))) pe_int (nomark _))))) (pss_one (ps_ret pe_bl)) pss_nil)
 (pss_one (ps_ret (pe_cmpR op_eq (pe_op op_mulW (pe_fld (pv 0) rfl) (pv 2)) (pe_op op_mulW (pv 1) (pe_fld (pv 0) rfl)) (nomark _)))))), ?_⟩
    refine ⟨_, rfl, _, _, _, _, true, rfl, .own C, ty, T.isC, true, rfl, iteF ?_⟩
    refine ⟨_, rfl, a, C, dx, _, _, rfl, hM, T.cl, T.nT, mf_top _ _, t, rfl, fun H1 e1 => ⟨true, rfl, iteF ?_⟩⟩
    refine ⟨_, rfl, a, C, dx, _, _, rfl, e1 _ _ hM, T.cl, T.nB, mf_bottom _ _, b, rfl, fun H2 e2 => ⟨true, rfl, iteF ?_⟩⟩
    have hM2 := e2 _ _ (e1 _ _ hM)
    refine ⟨_, rfl, a, C, dx, _, _, rfl, hM2, T.cl, T.nB, mf_bottom _ _, _, _, rfl, rfl, _, rfl, ?_⟩
    rw [decide_eq_false (show ¬ b < 1 by have := hR.1; omega)]
    refine iteF ?_
    refine ⟨_, rfl, a, C, dx, _, _, rfl, hM2, T.cl, T.nT, mf_top _ _, _, rfl, a, C, dx, _, _, rfl, hM2, T.cl, T.nB, mf_bottom _ _, t, b, rfl, st.mono (by decide), sb.mono (by decide), rfl, _, rfl, ?_⟩
    rw [hR.2]
    refine iteF ?_
    refine ⟨_, rfl, a, C, dx, _, _, rfl, hM2, T.cl, T.nT, mf_top _ _, _, rfl, _, _, rfl, rfl, st.cmul sd, _, rfl, _, rfl, a, C, dx, _, _, rfl, hM2, T.cl, T.nB, mf_bottom _ _, _, _, rfl, rfl, sn.cmul sb, rfl, ?_⟩
    show Q (V.bl (decide (V.int (t * d) = V.int (n * b)))) H2
    rw [he, decide_eq_true rfl]
    exact k _ (e1.trans e2)
abbrev sKp : Stmt := top 3
theorem scKp : FnScope ["value", "part", "key"] ["value"] (defScope sKp) := ⟨rfl, rfl, rfl, by decide +kernel, rfl, by decide +kernel, by decide +kernel⟩
theorem ok_kept {f : Addr} {fd : FuncData} (F : Fun K "_kept" "_kept" sKp f fd) (T : Txt K mg C) : FnOk P w K mg base CX0 1 f fd ["value"] (spKept K) := by
  refine F.ok scKp (fun vs H Q E h => ?_) (fun cdv A outer s H vs Q E hr h => ?_)
  · obtain ⟨x, rfl, _⟩ := h
    rfl
  · obtain ⟨x, rfl, px, k⟩ := h
    obtain ⟨t, ty, l, d⟩ := px.ty
    refine ⟨_, (pss_cons (ps_if (pt_val (pe_callB (r := rIsi K) call_isi rfl T.isi PyProof.Rows.boot_isinstance (pa_cons (pv 0) (pa_cons (pe_bltn (v := .ty "list") rfl T.lst PyProof.Rows.boot_list rfl) pa_nil)))) (pss_one ps_never) pss_nil)
 (pss_cons (ps_if (pt_val (pe_callB (r := rIsi K) call_isi rfl T.isi PyProof.Rows.boot_isinstance (pa_cons (pv 0) (pa_cons (pe_bltn (v := .ty "dict") rfl T.dct PyProof.Rows.boot_dict rfl) pa_nil)))) (pss_one ps_never) pss_nil)
 (pss_one (ps_ret (pv 0))))), ?_⟩
    exact ⟨_, rfl, _, _, _, _, false, rfl, .ty "list", ty, l, false, rfl, iteF ⟨_, rfl, _, _, _, _, false, rfl, .ty "dict", ty, d, false, rfl, iteF ⟨_, rfl, k⟩⟩⟩
/-! ### NoMoment's and Moment's __init__ -/
structure TxtN (K : PySem.W.Frag) (mg : Str → Option Value) (CN fN : Addr) : Prop where
  ox : OexC K CN
  nT : PySem.W.findIn K (.ref CN) "top" = some none
  nB : PySem.W.findIn K (.ref CN) "bottom" = some none
  iC : PySem.W.findIn K (.ref CN) "__init__" = some (some (.ref fN))
  tI : PySem.W.typeIn K (.ref fN) = some (.type "function")
  mg : mg "NoMoment" = some (.ref CN)
def spNoM (K : PySem.W.Frag) (C : Addr) : Sp := fun vs H Q _ => ∃ (a : Addr) (x y : V), vs = [.ref a, x, y] ∧ H a = some (exo a C none) ∧ Plain K H x ∧ Plain K H y ∧
  ∀ dx, H dx = none → dx ≠ a → Q .non (upd (upd (upd H dx (exd dx [(("top" : Str), x)])) a (exo a C (some dx))) dx (exd dx [(("bottom" : Str), y), (("top" : Str), x)]))
abbrev sNM : Stmt := inClass (top 5) 0
theorem scNM : FnScope ["self", "top", "bottom"] ["self", "top", "bottom"] (defScope sNM) := ⟨rfl, rfl, rfl, by decide +kernel, rfl, by decide +kernel, by decide +kernel⟩
theorem ok_nomom {f fN : Addr} {fd : FuncData} (F : Fun K "__init__" "NoMoment.__init__" sNM f fd) (T : TxtN K mg CN fN) (OK : Ok P w K mg base CX0 1 "_kept" ["value"] (spKept K)) : FnOk P w K mg base CX0 2 f fd ["self", "top", "bottom"] (spNoM K CN) := by
  obtain ⟨fKp, fdKp, GKp, mKp, kKp, bKp⟩ := OK
  refine F.ok scNM (fun vs H Q E h => ?_) (fun cdv A outer s H vs Q E hr h => ?_)
  · obtain ⟨a, x, y, rfl, _⟩ := h
    rfl
  · obtain ⟨a, x, y, rfl, ha, px, py, k⟩ := h
    refine ⟨_, (pss_cons (ps_ost (pv 0) (pe_call GKp (hr.mono (by decide)) rfl mKp kKp bKp .nil pass0 (pa_cons (pv 1) pa_nil)))
 (pss_one (ps_ost (pv 0) (pe_call GKp (hr.mono (by decide)) rfl mKp kKp bKp .nil pass0 (pa_cons (pv 2) pa_nil))))), ?_⟩
    refine ⟨_, rfl, x, rfl, px, _, rfl, a, CN, rfl, T.ox, T.nT, .inl ⟨ha, fun dx n1 n2 => ?_⟩⟩
    exact ⟨_, rfl, y, rfl, py.keep (ins_st ha n1), _, rfl, a, CN, rfl, T.ox, T.nB, .inr ⟨dx, _, upd_same, (by rw [upd_ne n2, upd_same]), (by show 1 ≤ 900; decide), k dx n1 n2⟩⟩
abbrev sIn : Stmt := inClass (top 12) 0
theorem scIn : FnScope ["self", "top", "bottom", "shared"] ["self", "top", "bottom"] (defScope sIn) := ⟨rfl, rfl, rfl, by decide +kernel, rfl, by decide +kernel, by decide +kernel⟩
theorem ok_init {f fN : Addr} {fd fdN : FuncData} {ds : List V} (F : FunD K "__init__" "Moment.__init__" (defArgs sIn) (defBody sIn) (defScope sIn) ds [] f fd) (T : Txt K mg C) (TN : TxtN K mg CN fN) (FNM : Fun K "__init__" "NoMoment.__init__" sNM fN fdN) (bNM : Binds K fdN ["self", "top", "bottom"] []) (OK : Ok P w K mg base CX0 1 "_kept" ["value"] (spKept K)) :
    FnOk P w K mg base (L2.CX P w) 4 f fd ["self", "top", "bottom"] (spInit C CN) := by
  have GNM : FnOk P w K mg base CX0 2 fN fdN ["self", "top", "bottom"] (spNoM K CN) := ok_nomom FNM TN OK
  refine F.ok (CX := L2.CX P w) scIn (fun vs H Q E h => ?_) (fun cdv A outer s H vs Q E hr h => ?_)
  · obtain ⟨p, dx, n, d, rfl, _⟩ := h
    rfl
  · obtain ⟨p, dx, n, d, rfl, hp, sn, sd, kE, kQ⟩ := h
    refine ⟨_, (pss_cons (ps_if (pt_cmpR op_eq (pv 2) pe_int (nomark _)) (pss_one (ps_raise rfl (takes_of rfl rfl rfl rfl) (pmk_oex TN.ox TN.iC TN.tI GNM (hr.mono (by decide)) bNM .nil pass0 rfl TN.mg (pa_cons (pv 1) (pa_cons (pv 2) pa_nil))))) pss_nil)
 (pss_cons (ps_set (i := 3) scIn.nd rfl (Or.inl rfl) (pe_ifExp (pt_cmpR op_gt (pv 2) pe_int (nomark _)) (pe_callBfun cr_gcd rfl T.gcd (pa_cons (pv 1) (pa_cons (pv 2) pa_nil))) (pe_un un_neg (pe_callBfun cr_gcd rfl T.gcd (pa_cons (pv 1) (pa_cons (pv 2) pa_nil))))))
 (pss_cons (ps_fld (pv 0) (pe_op op_fdivNW (pv 1) (pv 3)) rfl)
 (pss_one (ps_fld (pv 0) (pe_op op_fdivNW (pv 2) (pv 3)) rfl))))), ?_⟩
    refine ⟨_, rfl, rfl, _, rfl, ?_⟩
    refine ite2 (fun e1 => ?_) (fun e1 => ?_)
    · have hd : d = 0 := by
        have := of_decide_eq_true e1
        injection this
      subst hd
      refine ⟨_, rfl, _, rfl, (by show 2 ≤ 1000; decide), fun a ha => ⟨a, _, _, rfl, upd_same, .int _, .int _, fun d1 n1 n2 => ⟨rfl, d1, _, ?_, upd_same, ?_, ?_⟩⟩⟩
      · rw [upd_ne n2.symm, upd_same]
      · rw [upd_ne n2] at n1
        exact n1
      · rw [upd_ne n2] at n1
        refine kE rfl d1 _ _ n1 ?_ ?_ upd_same fun q o hq => ?_
        · rw [lookup_put, if_neg ntb, lookup_put, if_pos rfl]
        · rw [lookup_put, if_pos rfl]
        · have q1 : q ≠ d1 := ne_of_none hq n1
          have q2 : q ≠ a := ne_of_none hq ha
          rw [upd_ne q1, del_ne q2, upd_ne q1, upd_ne q2, upd_ne q1, upd_ne q2]
          exact hq
    · have hd : d ≠ 0 := fun z => e1 (decide_eq_true (by rw [z]))
      have N := norm_mk (n := n) hd
      have sN := sg_ne (n := n) hd
      have ss : Sm 8000 (sg n d) := sd.le (sg_le hd)
      have fin : ∀ D : Ends, (D.nx = fun _ H' => Q .non H') → tSeq (sFld K (tVar 0) (tOp (rI CDivNW fun i j => .int (i.fdiv j)) (tVar 1) (tVar 3)) "top") (sFld K (tVar 0) (tOp (rI CDivNW fun i j => .int (i.fdiv j)) (tVar 2) (tVar 3)) "bottom") D
          [some (.ref p), some (.int n), some (.int d), some (.int (sg n d))] H := by
        intro D hD
        refine ⟨_, rfl, _, rfl, _, _, rfl, rfl, ss.cdiv sN, _, rfl, p, C, dx, [], rfl, hp, T.cl, T.nT, (by show 0 < 1000; decide), ?_⟩
        refine ⟨_, rfl, _, rfl, _, _, rfl, rfl, ss.cdiv sN, _, rfl, p, C, dx, _, rfl, upd_same, T.cl, T.nB, (by show 1 < 1000; decide), ?_⟩
        rw [hD]
        have z := kQ hd _ _ N
        have e : upd (upd H p (.ins C dx (putF "top" (.int (n.fdiv (sg n d))) []))) p (.ins C dx (putF "bottom" (.int (d.fdiv (sg n d))) (putF "top" (.int (n.fdiv (sg n d))) []))) = upd H p (.ins C dx (mf (n.fdiv (sg n d)) (d.fdiv (sg n d)))) := by
          funext q
          by_cases hq : q = p
          · subst hq
            rw [upd_same, upd_same]
            rfl
          · rw [upd_ne hq, upd_ne hq, upd_ne hq]
        show Q .non (upd (upd H p _) p _)
        exact e ▸ z
      refine ⟨_, rfl, _, _, rfl, rfl, _, rfl, ?_⟩
      refine ite2 (fun e2 => ?_) (fun e2 => ?_)
      · have h0 := of_decide_eq_true e2
        refine ⟨_, rfl, _, rfl, n, d, rfl, ?_⟩
        have e3 : sg n d = ((Nat.gcd n.natAbs d.natAbs : Nat) : Int) := if_pos h0
        have z := fin { nx := fun _ H' => Q .non H', rt := Q } rfl
        rw [e3] at z
        exact z
      · have h0 := of_decide_eq_false (Bool.eq_false_iff.mpr e2)
        refine ⟨_, rfl, _, rfl, n, d, rfl, _, rfl, ?_⟩
        have e3 : sg n d = -((Nat.gcd n.natAbs d.natAbs : Nat) : Int) := if_neg h0
        have z := fin { nx := fun _ H' => Q .non H', rt := Q } rfl
        rw [e3] at z
        exact z
abbrev sIt : Stmt := top 13
theorem scIt : FnScope ["value"] ["value"] (defScope sIt) := ⟨rfl, rfl, rfl, by decide +kernel, rfl, by decide +kernel, by decide +kernel⟩
theorem ok_istime {f : Addr} {fd : FuncData} (F : Fun K "is_time" "is_time" sIt f fd) (T : Txt K mg C) : FnOk P w K mg base CX0 1 f fd ["value"] (spIsTime C) := by
  refine F.ok scIt (fun vs H Q E h => ?_) (fun cdv A outer s H vs Q E hr h => ?_)
  · obtain ⟨x, t, b, rfl, _⟩ := h
    rfl
  · obtain ⟨x, t, b, rfl, hx, k⟩ := h
    refine ⟨_, (pss_one (ps_ret (pe_callB call_isiT rfl T.isi PyProof.Rows.boot_isinstance (pa_cons (pv 0) (pa_cons (pe_tup (pa_cons (pe_bltn (v := .ty "int") rfl T.int PyProof.Rows.boot_int rfl) (pa_cons (pe_glob (v := .ref C) rfl T.mgC rfl) pa_nil))) pa_nil))))), ?_⟩
    refine ⟨_, rfl, (by show 2 ≤ sizeLine; decide), fun tp htp => ?_⟩
    have e1 : Ex H (upd H tp (.tup [.ty "int", .ref C])) := Ex.new htp
    have pr : Paired ClsV [V.ty "int", V.ref C] [Value.type "int", Value.ref C] := .cons (.ty _) (.cons (.own _) .nil)
    rcases hx with hx | ⟨rfl, _⟩
    · exact ⟨x, tp, _, _, _, true, rfl, upd_same, pr, tyM T (hx.ex e1), kitAny_cons T.isI (fun _ => kitAny_cons T.isC (fun z => by cases z) fun _ => rfl) (fun z => by cases z), k _ e1⟩
    · exact ⟨_, tp, _, _, _, true, rfl, upd_same, pr, .base (.int _), kitAny_cons (kit_ty (r := true) (by decide +kernel)) (fun z => by cases z) (fun _ => rfl), k _ e1⟩
abbrev sAm : Stmt := top 14
theorem scAm : FnScope ["time"] ["time"] (defScope sAm) := ⟨rfl, rfl, rfl, by decide +kernel, rfl, by decide +kernel, by decide +kernel⟩
theorem ok_asm {f : Addr} {fd : FuncData} (F : Fun K "as_moment" "as_moment" sAm f fd) (T : Txt K mg C) (OI : OkI P w K mg base C CN) : FnOk P w K mg base CX0 6 f fd ["time"] (spAsM C) := by
  obtain ⟨fI, fdI, dsI, GI, MkC, bI, vI1, bI1⟩ := OI
  refine F.ok scAm (fun vs H Q E h => ?_) (fun cdv A outer s H vs Q E hr h => ?_)
  · obtain ⟨x, t, b, rfl, _⟩ := h
    rfl
  · obtain ⟨x, t, b, rfl, hx, st, k⟩ := h
    refine ⟨_, (pss_cons (ps_if (pt_val (pe_callB (r := rIsi K) call_isi rfl T.isi PyProof.Rows.boot_isinstance (pa_cons (pv 0) (pa_cons (pe_glob (v := .ref C) rfl T.mgC rfl) pa_nil)))) (pss_one (ps_ret (pv 0))) pss_nil)
 (pss_one (ps_ret (pe_make MkC GI (hr.mono (by decide)) rfl T.mgC bI1 vI1 passL (pa_cons (pv 0) pa_nil))))), ?_⟩
    rcases hx with hx | ⟨rfl, rfl⟩
    · exact ⟨_, rfl, _, _, _, _, true, rfl, .own C, tyM T hx, T.isC, true, rfl, iteT ⟨_, rfl, k _ _ (Ex.refl _) hx⟩⟩
    · exact ⟨_, rfl, _, _, _, _, false, rfl, .own C, .base (.int _), T.iI, false, rfl, iteF ⟨_, rfl, mk_rd1 st k⟩⟩
abbrev sEq : Stmt := inClass (top 12) 7
theorem scEq : FnScope ["self", "other"] ["self", "other"] (defScope sEq) := ⟨rfl, rfl, rfl, by decide +kernel, rfl, by decide +kernel, by decide +kernel⟩
theorem ok_eq {f : Addr} {fd : FuncData} (F : Fun K "__eq__" "Moment.__eq__" sEq f fd) (T : Txt K mg C) (hic : PySem.W.isClsIn K C = true) (hty : PySem.W.typeIn K (.ref C) = some (.type "type")) : FnOk P w K mg base CX0 1 f fd ["self", "other"] (spEq2 C) := by
  refine F.ok scEq (fun vs H Q E h => ?_) (fun cdv A outer s H vs Q E hr h => ?_)
  · obtain ⟨x, y, t, b, rfl, _⟩ := h
    rfl
  · obtain ⟨x, y, t, b, rfl, hx, hy⟩ := h
    obtain ⟨a, dx, rfl, hx⟩ := hx
    refine ⟨_, (pss_cons (ps_if (pt_val (pe_callB (r := rIsi K) call_isi rfl T.isi PyProof.Rows.boot_isinstance (pa_cons (pv 1) (pa_cons (pe_glob (v := .ref C) rfl T.mgC rfl) pa_nil)))) (pss_one (ps_ret (pe_and (pe_cmpR op_eq (pe_fld (pv 0) rfl) (pe_fld (pv 1) rfl) (nomark _)) (pe_one (pe_cmpR op_eq (pe_fld (pv 0) rfl) (pe_fld (pv 1) rfl) (nomark _)))))) pss_nil)
 (pss_one (ps_ret (pe_and (pe_callB (r := rIsi K) call_isi rfl T.isi PyProof.Rows.boot_isinstance (pa_cons (pv 1) (pa_cons (pe_bltn (v := .ty "int") rfl T.int PyProof.Rows.boot_int rfl) pa_nil))) (pe_and (pe_cmpR op_eq (pe_fld (pv 0) rfl) pe_int (nomark _)) (pe_one (pe_cmpR op_eq (pe_fld (pv 0) rfl) (pv 1) (nomark _)))))))), ?_⟩
    rcases hy with ⟨t', b', hy, k⟩ | ⟨i, rfl, k⟩ | ⟨ho, k⟩
    · have ty := tyM T hy
      obtain ⟨a2, dx2, rfl, hy⟩ := hy
      refine ⟨_, rfl, _, _, _, _, true, rfl, .own C, ty, T.isC, true, rfl, iteT ?_⟩
      refine ⟨_, rfl, a, C, dx, _, _, rfl, hx, T.cl, T.nT, mf_top _ _, _, rfl, a2, C, dx2, _, _, rfl, hy, T.cl, T.nT, mf_top _ _, rfl, _, rfl, ?_⟩
      refine ite2 (fun e1 => ?_) (fun e1 => ?_)
      · have h1 : t = t' := by
          have z := of_decide_eq_true e1
          injection z
        refine ⟨_, rfl, a, C, dx, _, _, rfl, hx, T.cl, T.nB, mf_bottom _ _, _, rfl, a2, C, dx2, _, _, rfl, hy, T.cl, T.nB, mf_bottom _ _, rfl, ?_⟩
        refine k _ _ (Ex.refl _) ⟨fun z => ⟨h1, by have z := of_decide_eq_true z; injection z⟩, fun z => decide_eq_true (by rw [z.2])⟩
      · exact k _ _ (Ex.refl _) ⟨fun z => Bool.noConfusion z, fun z => absurd (decide_eq_true (by rw [z.1])) e1⟩
    · refine ⟨_, rfl, _, _, _, _, false, rfl, .own C, .base (.int _), T.iI, false, rfl, iteF ?_⟩
      refine ⟨_, rfl, _, _, _, _, true, rfl, .ty "int", .base (.int _), kit_ty (by decide +kernel), true, rfl, iteT ?_⟩
      refine ⟨_, rfl, a, C, dx, _, _, rfl, hx, T.cl, T.nB, mf_bottom _ _, rfl, _, rfl, ?_⟩
      refine ite2 (fun e1 => ?_) (fun e1 => ?_)
      · have h1 : b = 1 := by
          have z := of_decide_eq_true e1
          injection z
        refine ⟨_, rfl, a, C, dx, _, _, rfl, hx, T.cl, T.nT, mf_top _ _, _, rfl, rfl, ?_⟩
        refine k _ _ (Ex.refl _) ⟨fun z => ⟨h1, by have z := of_decide_eq_true z; injection z⟩, fun z => decide_eq_true (by rw [z.2])⟩
      · exact k _ _ (Ex.refl _) ⟨fun z => Bool.noConfusion z, fun z => absurd (decide_eq_true (by rw [z.1])) e1⟩
    · obtain ⟨ty, h1, h2, h3⟩ : ∃ ty, TyX K H y ty ∧ PySem.W.kitOne K ty (.ref C) = some false ∧ PySem.W.kitOne K ty (.type "int") = some false := by
        cases ho with
        | str z => exact ⟨_, .base (.str _), kit_tc hic hty nf_str, kit_ty (by decide +kernel)⟩
        | non => exact ⟨_, .base .non, kit_tc hic hty nf_none, kit_ty (by decide +kernel)⟩
        | lst e => exact ⟨_, .base (.lst e), kit_tc hic hty nf_list, kit_ty (by decide +kernel)⟩
        | tup e => exact ⟨_, .base (.tup e), kit_tc hic hty nf_tuple, kit_ty (by decide +kernel)⟩
      exact ⟨_, rfl, _, _, _, _, false, rfl, .own C, h1, h2, false, rfl, iteF ⟨_, rfl, _, _, _, _, false, rfl, .ty "int", h1, h3, false, rfl, k _ (Ex.refl _)⟩⟩
abbrev sLt : Stmt := inClass (top 12) 8
theorem scLt : FnScope ["self", "other"] ["self", "other"] (defScope sLt) := ⟨rfl, rfl, rfl, by decide +kernel, rfl, by decide +kernel, by decide +kernel⟩
theorem ok_lt {f : Addr} {fd : FuncData} (F : Fun K "__lt__" "Moment.__lt__" sLt f fd) (T : Txt K mg C) (OT : Ok P w K mg base CX0 1 "is_time" ["value"] (spIsTime C)) (OA : Ok P w K mg base CX0 6 "as_moment" ["time"] (spAsM C)) : FnOk P w K mg base CX0 7 f fd ["self", "other"] (spCmp C gLt) := by
  refine F.ok scLt (fun vs H Q E h => ?_) (fun cdv A outer s H vs Q E hr h => ?_)
  · obtain ⟨x, y, t, b, t', b', rfl, _⟩ := h
    rfl
  · obtain ⟨x, y, t, b, t', b', rfl, hx, hy, st, sb, st', sb', k⟩ := h
    obtain ⟨a, dx, rfl, hx⟩ := hx
    refine ⟨_, (pss_cons (ps_if (pt_val (pe_callB (r := rIsi K) call_isi rfl T.isi PyProof.Rows.boot_isinstance (pa_cons (pv 1) (pa_cons (pe_glob (v := .ref C) rfl T.mgC rfl) pa_nil)))) (pss_one (ps_ret (pe_cmpR op_lt (pe_op op_mulW (pe_fld (pv 0) rfl) (pe_fld (pv 1) rfl)) (pe_op op_mulW (pe_fld (pv 1) rfl) (pe_fld (pv 0) rfl)) (nomark _)))) pss_nil)
 (pss_cons (ps_if (pt_val (pe_callB (r := rIsi K) call_isi rfl T.isi PyProof.Rows.boot_isinstance (pa_cons (pv 1) (pa_cons (pe_bltn (v := .ty "int") rfl T.int PyProof.Rows.boot_int rfl) pa_nil)))) (pss_one (ps_ret (pe_cmpR op_lt (pe_fld (pv 0) rfl) (pe_op op_mulW (pv 1) (pe_fld (pv 0) rfl)) (nomark _)))) pss_nil)
 (pss_one ps_never))), ?_⟩
    rcases hy with hy | ⟨rfl, rfl⟩
    · have ty := tyM T hy
      obtain ⟨a2, dx2, rfl, m1⟩ := hy
      refine ⟨_, rfl, _, _, _, _, true, rfl, .own C, ty, T.isC, true, rfl, iteT ?_⟩
      exact ⟨_, rfl, a, C, dx, _, _, rfl, hx, T.cl, T.nT, mf_top _ _, _, rfl, a2, C, dx2, _, _, rfl, m1, T.cl, T.nB, mf_bottom _ _, _, _, rfl, rfl, st.cmul sb', _, rfl, a2, C, dx2, _, _, rfl, m1, T.cl, T.nT, mf_top _ _, _, rfl, a, C, dx, _, _, rfl, hx, T.cl, T.nB, mf_bottom _ _, _, _, rfl, rfl, st'.cmul sb, _, _, rfl, rfl, k _ (Ex.refl _)⟩
    · refine ⟨_, rfl, _, _, _, _, false, rfl, .own C, .base (.int _), T.iI, false, rfl, iteF ?_⟩
      refine ⟨_, rfl, _, _, _, _, true, rfl, .ty "int", .base (.int _), kit_ty (by decide +kernel), true, rfl, iteT ?_⟩
      have k' := k _ (Ex.refl _)
      rw [Int.mul_one] at k'
      exact ⟨_, rfl, a, C, dx, _, _, rfl, hx, T.cl, T.nT, mf_top _ _, _, rfl, _, rfl, a, C, dx, _, _, rfl, hx, T.cl, T.nB, mf_bottom _ _, _, _, rfl, rfl, st'.cmul sb, _, _, rfl, rfl, k'⟩
abbrev sLe : Stmt := inClass (top 12) 9
theorem scLe : FnScope ["self", "other"] ["self", "other"] (defScope sLe) := ⟨rfl, rfl, rfl, by decide +kernel, rfl, by decide +kernel, by decide +kernel⟩
theorem ok_le {f : Addr} {fd : FuncData} (F : Fun K "__le__" "Moment.__le__" sLe f fd) (T : Txt K mg C) (OT : Ok P w K mg base CX0 1 "is_time" ["value"] (spIsTime C)) (OA : Ok P w K mg base CX0 6 "as_moment" ["time"] (spAsM C)) : FnOk P w K mg base CX0 7 f fd ["self", "other"] (spCmp C gLe) := by
  refine F.ok scLe (fun vs H Q E h => ?_) (fun cdv A outer s H vs Q E hr h => ?_)
  · obtain ⟨x, y, t, b, t', b', rfl, _⟩ := h
    rfl
  · obtain ⟨x, y, t, b, t', b', rfl, hx, hy, st, sb, st', sb', k⟩ := h
    obtain ⟨a, dx, rfl, hx⟩ := hx
    refine ⟨_, (pss_cons (ps_if (pt_val (pe_callB (r := rIsi K) call_isi rfl T.isi PyProof.Rows.boot_isinstance (pa_cons (pv 1) (pa_cons (pe_glob (v := .ref C) rfl T.mgC rfl) pa_nil)))) (pss_one (ps_ret (pe_cmpR op_le (pe_op op_mulW (pe_fld (pv 0) rfl) (pe_fld (pv 1) rfl)) (pe_op op_mulW (pe_fld (pv 1) rfl) (pe_fld (pv 0) rfl)) (nomark _)))) pss_nil)
 (pss_cons (ps_if (pt_val (pe_callB (r := rIsi K) call_isi rfl T.isi PyProof.Rows.boot_isinstance (pa_cons (pv 1) (pa_cons (pe_bltn (v := .ty "int") rfl T.int PyProof.Rows.boot_int rfl) pa_nil)))) (pss_one (ps_ret (pe_cmpR op_le (pe_fld (pv 0) rfl) (pe_op op_mulW (pv 1) (pe_fld (pv 0) rfl)) (nomark _)))) pss_nil)
 (pss_one ps_never))), ?_⟩
    rcases hy with hy | ⟨rfl, rfl⟩
    · have ty := tyM T hy
      obtain ⟨a2, dx2, rfl, m1⟩ := hy
      refine ⟨_, rfl, _, _, _, _, true, rfl, .own C, ty, T.isC, true, rfl, iteT ?_⟩
      exact ⟨_, rfl, a, C, dx, _, _, rfl, hx, T.cl, T.nT, mf_top _ _, _, rfl, a2, C, dx2, _, _, rfl, m1, T.cl, T.nB, mf_bottom _ _, _, _, rfl, rfl, st.cmul sb', _, rfl, a2, C, dx2, _, _, rfl, m1, T.cl, T.nT, mf_top _ _, _, rfl, a, C, dx, _, _, rfl, hx, T.cl, T.nB, mf_bottom _ _, _, _, rfl, rfl, st'.cmul sb, _, _, rfl, rfl, k _ (Ex.refl _)⟩
    · refine ⟨_, rfl, _, _, _, _, false, rfl, .own C, .base (.int _), T.iI, false, rfl, iteF ?_⟩
      refine ⟨_, rfl, _, _, _, _, true, rfl, .ty "int", .base (.int _), kit_ty (by decide +kernel), true, rfl, iteT ?_⟩
      have k' := k _ (Ex.refl _)
      rw [Int.mul_one] at k'
      exact ⟨_, rfl, a, C, dx, _, _, rfl, hx, T.cl, T.nT, mf_top _ _, _, rfl, _, rfl, a, C, dx, _, _, rfl, hx, T.cl, T.nB, mf_bottom _ _, _, _, rfl, rfl, st'.cmul sb, _, _, rfl, rfl, k'⟩
abbrev sGt : Stmt := inClass (top 12) 10
theorem scGt : FnScope ["self", "other"] ["self", "other"] (defScope sGt) := ⟨rfl, rfl, rfl, by decide +kernel, rfl, by decide +kernel, by decide +kernel⟩
theorem ok_gt {f : Addr} {fd : FuncData} (F : Fun K "__gt__" "Moment.__gt__" sGt f fd) (T : Txt K mg C) (OT : Ok P w K mg base CX0 1 "is_time" ["value"] (spIsTime C)) (OA : Ok P w K mg base CX0 6 "as_moment" ["time"] (spAsM C)) : FnOk P w K mg base CX0 7 f fd ["self", "other"] (spCmp C gGt) := by
  refine F.ok scGt (fun vs H Q E h => ?_) (fun cdv A outer s H vs Q E hr h => ?_)
  · obtain ⟨x, y, t, b, t', b', rfl, _⟩ := h
    rfl
  · obtain ⟨x, y, t, b, t', b', rfl, hx, hy, st, sb, st', sb', k⟩ := h
    obtain ⟨a, dx, rfl, hx⟩ := hx
    refine ⟨_, (pss_cons (ps_if (pt_val (pe_callB (r := rIsi K) call_isi rfl T.isi PyProof.Rows.boot_isinstance (pa_cons (pv 1) (pa_cons (pe_glob (v := .ref C) rfl T.mgC rfl) pa_nil)))) (pss_one (ps_ret (pe_cmpR op_gt (pe_op op_mulW (pe_fld (pv 0) rfl) (pe_fld (pv 1) rfl)) (pe_op op_mulW (pe_fld (pv 1) rfl) (pe_fld (pv 0) rfl)) (nomark _)))) pss_nil)
 (pss_cons (ps_if (pt_val (pe_callB (r := rIsi K) call_isi rfl T.isi PyProof.Rows.boot_isinstance (pa_cons (pv 1) (pa_cons (pe_bltn (v := .ty "int") rfl T.int PyProof.Rows.boot_int rfl) pa_nil)))) (pss_one (ps_ret (pe_cmpR op_gt (pe_fld (pv 0) rfl) (pe_op op_mulW (pv 1) (pe_fld (pv 0) rfl)) (nomark _)))) pss_nil)
 (pss_one ps_never))), ?_⟩
    rcases hy with hy | ⟨rfl, rfl⟩
    · have ty := tyM T hy
      obtain ⟨a2, dx2, rfl, m1⟩ := hy
      refine ⟨_, rfl, _, _, _, _, true, rfl, .own C, ty, T.isC, true, rfl, iteT ?_⟩
      exact ⟨_, rfl, a, C, dx, _, _, rfl, hx, T.cl, T.nT, mf_top _ _, _, rfl, a2, C, dx2, _, _, rfl, m1, T.cl, T.nB, mf_bottom _ _, _, _, rfl, rfl, st.cmul sb', _, rfl, a2, C, dx2, _, _, rfl, m1, T.cl, T.nT, mf_top _ _, _, rfl, a, C, dx, _, _, rfl, hx, T.cl, T.nB, mf_bottom _ _, _, _, rfl, rfl, st'.cmul sb, _, _, rfl, rfl, k _ (Ex.refl _)⟩
    · refine ⟨_, rfl, _, _, _, _, false, rfl, .own C, .base (.int _), T.iI, false, rfl, iteF ?_⟩
      refine ⟨_, rfl, _, _, _, _, true, rfl, .ty "int", .base (.int _), kit_ty (by decide +kernel), true, rfl, iteT ?_⟩
      have k' := k _ (Ex.refl _)
      rw [Int.mul_one] at k'
      exact ⟨_, rfl, a, C, dx, _, _, rfl, hx, T.cl, T.nT, mf_top _ _, _, rfl, _, rfl, a, C, dx, _, _, rfl, hx, T.cl, T.nB, mf_bottom _ _, _, _, rfl, rfl, st'.cmul sb, _, _, rfl, rfl, k'⟩
abbrev sGe : Stmt := inClass (top 12) 11
theorem scGe : FnScope ["self", "other"] ["self", "other"] (defScope sGe) := ⟨rfl, rfl, rfl, by decide +kernel, rfl, by decide +kernel, by decide +kernel⟩
theorem ok_ge {f : Addr} {fd : FuncData} (F : Fun K "__ge__" "Moment.__ge__" sGe f fd) (T : Txt K mg C) (OT : Ok P w K mg base CX0 1 "is_time" ["value"] (spIsTime C)) (OA : Ok P w K mg base CX0 6 "as_moment" ["time"] (spAsM C)) : FnOk P w K mg base CX0 7 f fd ["self", "other"] (spCmp C gGe) := by
  refine F.ok scGe (fun vs H Q E h => ?_) (fun cdv A outer s H vs Q E hr h => ?_)
  · obtain ⟨x, y, t, b, t', b', rfl, _⟩ := h
    rfl
  · obtain ⟨x, y, t, b, t', b', rfl, hx, hy, st, sb, st', sb', k⟩ := h
    obtain ⟨a, dx, rfl, hx⟩ := hx
    refine ⟨_, (pss_cons (ps_if (pt_val (pe_callB (r := rIsi K) call_isi rfl T.isi PyProof.Rows.boot_isinstance (pa_cons (pv 1) (pa_cons (pe_glob (v := .ref C) rfl T.mgC rfl) pa_nil)))) (pss_one (ps_ret (pe_cmpR op_ge (pe_op op_mulW (pe_fld (pv 0) rfl) (pe_fld (pv 1) rfl)) (pe_op op_mulW (pe_fld (pv 1) rfl) (pe_fld (pv 0) rfl)) (nomark _)))) pss_nil)
 (pss_cons (ps_if (pt_val (pe_callB (r := rIsi K) call_isi rfl T.isi PyProof.Rows.boot_isinstance (pa_cons (pv 1) (pa_cons (pe_bltn (v := .ty "int") rfl T.int PyProof.Rows.boot_int rfl) pa_nil)))) (pss_one (ps_ret (pe_cmpR op_ge (pe_fld (pv 0) rfl) (pe_op op_mulW (pv 1) (pe_fld (pv 0) rfl)) (nomark _)))) pss_nil)
 (pss_one ps_never))), ?_⟩
    rcases hy with hy | ⟨rfl, rfl⟩
    · have ty := tyM T hy
      obtain ⟨a2, dx2, rfl, m1⟩ := hy
      refine ⟨_, rfl, _, _, _, _, true, rfl, .own C, ty, T.isC, true, rfl, iteT ?_⟩
      exact ⟨_, rfl, a, C, dx, _, _, rfl, hx, T.cl, T.nT, mf_top _ _, _, rfl, a2, C, dx2, _, _, rfl, m1, T.cl, T.nB, mf_bottom _ _, _, _, rfl, rfl, st.cmul sb', _, rfl, a2, C, dx2, _, _, rfl, m1, T.cl, T.nT, mf_top _ _, _, rfl, a, C, dx, _, _, rfl, hx, T.cl, T.nB, mf_bottom _ _, _, _, rfl, rfl, st'.cmul sb, _, _, rfl, rfl, k _ (Ex.refl _)⟩
    · refine ⟨_, rfl, _, _, _, _, false, rfl, .own C, .base (.int _), T.iI, false, rfl, iteF ?_⟩
      refine ⟨_, rfl, _, _, _, _, true, rfl, .ty "int", .base (.int _), kit_ty (by decide +kernel), true, rfl, iteT ?_⟩
      have k' := k _ (Ex.refl _)
      rw [Int.mul_one] at k'
      exact ⟨_, rfl, a, C, dx, _, _, rfl, hx, T.cl, T.nT, mf_top _ _, _, rfl, _, rfl, a, C, dx, _, _, rfl, hx, T.cl, T.nB, mf_bottom _ _, _, _, rfl, rfl, st'.cmul sb, _, _, rfl, rfl, k'⟩
/-! ### NoMark's and Mark's __init__ -/
structure TxtK (K : PySem.W.Frag) (mg : Str → Option Value) (CM CK fK : Addr) : Prop where
  ox : OexC K CK
  nT : PySem.W.findIn K (.ref CK) "tone" = some none
  nB : PySem.W.findIn K (.ref CK) "begin" = some none
  nE : PySem.W.findIn K (.ref CK) "end" = some none
  iC : PySem.W.findIn K (.ref CK) "__init__" = some (some (.ref fK))
  tI : PySem.W.typeIn K (.ref fK) = some (.type "function")
  mgK : mg "NoMark" = some (.ref CK)
  mgM : mg "Mark" = some (.ref CM)
  cl : Cls K CM
  aT : NoAttr K CM "tone"
  aB : NoAttr K CM "begin"
  aE : NoAttr K CM "end"
  aS : NoAttr K CM "start"
  aP : NoAttr K CM "stop"
theorem ins_st2 {H : Hp} {a dx C' : Addr} {u v x : HO} (ha : H a = some (exo a C' none)) (hd : H dx = none) : ∀ (q C dx' : Addr) (fs : List (Str × V)), H q = some (.ins C dx' fs) → upd (upd (upd H dx u) a v) dx x q = some (.ins C dx' fs) := fun q C d fs e => by
  rw [upd_ne (ne_of_none e hd)]
  exact ins_st ha hd _ _ _ _ e
theorem plainT {v : V} {t b : Int} {H : Hp} (T : Txt K mg C) (h : Tm C t b v H) : Plain K H v := by
  rcases h with ⟨a, dx, rfl, e⟩ | ⟨rfl, _⟩
  · exact .ins e (fun e => .base (.ins e T.cl T.cls T.clg T.clt T.obj)) T.nL T.nD
  · exact .int _
abbrev sNK : Stmt := inClass (top 7) 0
theorem scNK : FnScope ["self", "tone", "begin", "end"] ["self", "tone", "begin", "end"] (defScope sNK) := ⟨rfl, rfl, rfl, by decide +kernel, rfl, by decide +kernel, by decide +kernel⟩
theorem ok_nomark {CM CK f fK : Addr} {fd : FuncData} (F : Fun K "__init__" "NoMark.__init__" sNK f fd) (T : TxtK K mg CM CK fK) (OK : Ok P w K mg base CX0 1 "_kept" ["value"] (spKept K)) : FnOk P w K mg base CX0 2 f fd ["self", "tone", "begin", "end"] (spNoK K CK) := by
  obtain ⟨fKp, fdKp, GKp, mKp, kKp, bKp⟩ := OK
  refine F.ok scNK (fun vs H Q E h => ?_) (fun cdv A outer s H vs Q E hr h => ?_)
  · obtain ⟨a, x, y, z, rfl, _⟩ := h
    rfl
  · obtain ⟨a, x, y, z, rfl, ha, px, py, pz, k⟩ := h
    refine ⟨_, (pss_cons (ps_ost (pv 0) (pe_call GKp (hr.mono (by decide)) rfl mKp kKp bKp .nil pass0 (pa_cons (pv 1) pa_nil)))
 (pss_cons (ps_ost (pv 0) (pe_call GKp (hr.mono (by decide)) rfl mKp kKp bKp .nil pass0 (pa_cons (pv 2) pa_nil)))
 (pss_one (ps_ost (pv 0) (pe_call GKp (hr.mono (by decide)) rfl mKp kKp bKp .nil pass0 (pa_cons (pv 3) pa_nil)))))), ?_⟩
    refine ⟨_, rfl, x, rfl, px, _, rfl, a, CK, rfl, T.ox, T.nT, .inl ⟨ha, fun dx n1 n2 => ?_⟩⟩
    refine ⟨_, rfl, y, rfl, py.keep (ins_st ha n1), _, rfl, a, CK, rfl, T.ox, T.nB, .inr ⟨dx, _, upd_same, (by rw [upd_ne n2, upd_same]), (by show 1 ≤ 900; decide), ?_⟩⟩
    exact ⟨_, rfl, z, rfl, pz.keep (ins_st2 ha n1), _, rfl, a, CK, rfl, T.ox, T.nE, .inr ⟨dx, _, (by rw [upd_ne n2.symm, upd_same]), upd_same, (by show 2 ≤ 900; decide), k dx n1 n2⟩⟩
/-- the order's methods that a mark's check asks -/
structure Ord4 (P : Program) (w : World) (K : PySem.W.Frag) (mg : Str → Option Value) (base : Heap) (C fL fLe fG fGe : Addr) (dL dLe dG dGe : FuncData) : Prop where
  lt : FnOk P w K mg base CX0 7 fL dL ["self", "other"] (spCmp C gLt)
  le : FnOk P w K mg base CX0 7 fLe dLe ["self", "other"] (spCmp C gLe)
  gt : FnOk P w K mg base CX0 7 fG dG ["self", "other"] (spCmp C gGt)
  ge : FnOk P w K mg base CX0 7 fGe dGe ["self", "other"] (spCmp C gGe)
  ltA : PySem.W.findIn K (.ref C) "__lt__" = some (some (.ref fL))
  leA : PySem.W.findIn K (.ref C) "__le__" = some (some (.ref fLe))
  gtA : PySem.W.findIn K (.ref C) "__gt__" = some (some (.ref fG))
  geA : PySem.W.findIn K (.ref C) "__ge__" = some (some (.ref fGe))
  ltF : PySem.W.isFn K (.ref fL) = true
  leF : PySem.W.isFn K (.ref fLe) = true
  gtF : PySem.W.isFn K (.ref fG) = true
  geF : PySem.W.isFn K (.ref fGe) = true
  ltB : Binds K dL ["self", "other"] []
  leB : Binds K dLe ["self", "other"] []
  gtB : Binds K dG ["self", "other"] []
  geB : Binds K dGe ["self", "other"] []
theorem np {f g : Str} {v : V} {fs : List (Str × V)} (h : ¬ f = g) (e : fs.lookup f = none) : (putF g v fs).lookup f = none := by rw [lookup_putF, if_neg h, e]
abbrev sMk : Stmt := inClass (top 18) 0
theorem scMk : FnScope ["self", "tone", "begin", "end", "start", "stop", "first", "last"] ["self", "tone", "begin", "end", "start", "stop"] (defScope sMk) := ⟨rfl, rfl, rfl, by decide +kernel, rfl, by decide +kernel, by decide +kernel⟩
theorem ok_mark {CM CK f fK fL fLe fG fGe : Addr} {fd fdK dL dLe dG dGe : FuncData} {kws : List (Str × V)} (F : FunD K "__init__" "Mark.__init__" (defArgs sMk) (defBody sMk) (defScope sMk) [] kws f fd) (T : Txt K mg C) (TO : Opc K C) (TK : TxtK K mg CM CK fK)
    (FNK : Fun K "__init__" "NoMark.__init__" sNK fK fdK) (bNK : Binds K fdK ["self", "tone", "begin", "end"] []) (OK : Ok P w K mg base CX0 1 "_kept" ["value"] (spKept K)) (R : Ord4 P w K mg base C fL fLe fG fGe dL dLe dG dGe) (OA : Ok P w K mg base CX0 6 "as_moment" ["time"] (spAsM C)) :
    FnOk P w K mg base (L2.CX P w) 9 f fd ["self", "tone", "begin", "end", "start", "stop"] (spMark CM C CK) := by
  have GNK : FnOk P w K mg base CX0 2 fK fdK ["self", "tone", "begin", "end"] (spNoK K CK) := ok_nomark FNK TK OK
  obtain ⟨fAm, fdAm, GAm, mAm, kAm, bAm⟩ := OA
  refine F.ok (CX := L2.CX P w) scMk (fun vs H Q E h => ?_) (fun cdv A outer s H vs Q E hr h => ?_)
  · obtain ⟨p, dx, m, xb, xe, xs, xt, rfl, _⟩ := h
    rfl
  · obtain ⟨p, dx, m, xb, xe, xs, xt, rfl, hp, hb, he, hs, ht, kE, kQ⟩ := h
    let X := cxOf (L2.CX P w) P w K mg base ["self", "tone", "begin", "end", "start", "stop", "first", "last"] "Mark.__init__" (defScope sMk) f cdv A outer s H E
    have oLt := ((op_cmp (X := X) (C := C) (op := .Lt) (E := E0) (fun _ _ => rfl) R.ltA R.ltF R.lt (hr.mono (by decide)) R.ltB pass0).or (op_cmpR (X := X) (C := C) (op := .Lt) (E := E0) TO ic_lt R.gtA R.gtF R.gt (hr.mono (by decide)) R.gtB pass0)).or (op_lt (X := X))
    have oLe := ((op_cmp (X := X) (C := C) (op := .LtE) (E := E0) (fun _ _ => rfl) R.leA R.leF R.le (hr.mono (by decide)) R.leB pass0).or (op_cmpR (X := X) (C := C) (op := .LtE) (E := E0) TO ic_le R.geA R.geF R.ge (hr.mono (by decide)) R.geB pass0)).or (op_le (X := X))
    obtain ⟨ys, hys, hs2⟩ : ∃ ys : V, ys = (if xs = .non then xb else xs) ∧ FT C m.s ys H := by
      rcases hs with ⟨rfl, e⟩ | hs
      · exact ⟨_, rfl, by rw [if_pos rfl, e]; exact hb⟩
      · refine ⟨_, rfl, ?_⟩
        rw [if_neg (by rintro rfl; rcases hs.1 with ⟨a, d, e, _⟩ | ⟨e, _⟩ <;> cases e)]
        exact hs
    obtain ⟨yt, hyt, ht2⟩ : ∃ yt : V, yt = (if xt = .non then xe else xt) ∧ FT C m.t yt H := by
      rcases ht with ⟨rfl, e⟩ | ht
      · exact ⟨_, rfl, by rw [if_pos rfl, e]; exact he⟩
      · refine ⟨_, rfl, ?_⟩
        rw [if_neg (by rintro rfl; rcases ht.1 with ⟨a, d, e, _⟩ | ⟨e, _⟩ <;> cases e)]
        exact ht
    refine ⟨_, (Evl.pss_cut (ps_set (i := 6) scMk.nd rfl (Or.inl rfl) (pe_ifExp (pt_cmpR op_isN (pv 4) pe_non (nomark _)) (pv 2) (pv 4)))
 (Evl.pss_cut (ps_set (i := 7) scMk.nd rfl (Or.inl rfl) (pe_ifExp (pt_cmpR op_isN (pv 5) pe_non (nomark _)) (pv 3) (pv 5)))
 (pss_cons (ps_if (pt_not (pt_chain3 oLe oLt oLe (pv 2) (pv 6) (pv 7) (pv 3))) (pss_one (ps_raise rfl (takes_of rfl rfl rfl rfl) (pmk_oex TK.ox TK.iC TK.tI GNK (hr.mono (by decide)) bNK .nil pass0 rfl TK.mgK (pa_cons (pv 1) (pa_cons (pv 2) (pa_cons (pv 3) pa_nil)))))) pss_nil)
 (pss_cons (ps_fld (pv 0) (pv 1) rfl)
 (pss_cons (ps_fld (pv 0) (pe_call GAm (hr.mono (by decide)) rfl mAm kAm bAm .nil pass0 (pa_cons (pv 2) pa_nil)) rfl)
 (pss_cons (ps_fld (pv 0) (pe_call GAm (hr.mono (by decide)) rfl mAm kAm bAm .nil pass0 (pa_cons (pv 3) pa_nil)) rfl)
 (pss_cons (ps_fld (pv 0) (pe_call GAm (hr.mono (by decide)) rfl mAm kAm bAm .nil pass0 (pa_cons (pv 6) pa_nil)) rfl)
 (pss_one (ps_fld (pv 0) (pe_call GAm (hr.mono (by decide)) rfl mAm kAm bAm .nil pass0 (pa_cons (pv 7) pa_nil)) rfl))))))))), ?_⟩
    refine ⟨fun σ H' => σ = [some (.ref p), some (.int m.n), some xb, some xe, some xs, some xt, some ys, none] ∧ H = H', ⟨_, rfl, rfl, _, rfl, ite2 (fun z => ⟨_, rfl, by rw [hys, if_pos (of_decide_eq_true z)]; rfl, rfl⟩) (fun z => ⟨_, rfl, by rw [hys, if_neg (fun q => z (decide_eq_true q))]; rfl, rfl⟩)⟩, ?_⟩
    rintro σ H' ⟨rfl, rfl⟩
    refine ⟨fun σ H' => σ = [some (.ref p), some (.int m.n), some xb, some xe, some xs, some xt, some ys, some yt] ∧ H = H', ⟨_, rfl, rfl, _, rfl, ite2 (fun z => ⟨_, rfl, by rw [hyt, if_pos (of_decide_eq_true z)]; rfl, rfl⟩) (fun z => ⟨_, rfl, by rw [hyt, if_neg (fun q => z (decide_eq_true q))]; rfl, rfl⟩)⟩, ?_⟩
    rintro σ H' ⟨rfl, rfl⟩
    clear hys hyt hs ht
    refine ⟨_, rfl, _, rfl, cmp_tm hb.1 hs2.1 hb.2.2.1 hb.2.2.2 hs2.2.2.1 hs2.2.2.2 (fun _ _ => rfl) fun H1 e1 => ⟨_, rfl, ite2 (fun h1 => ?_) (fun h1 => ?_)⟩⟩
    rotate_left
    · refine iteT ?_
      refine ⟨_, rfl, _, rfl, _, rfl, (by show 3 ≤ 1000; decide), fun a ha => ⟨a, _, _, _, rfl, upd_same, .int _, plainT T (hb.1.ex (Ex.trans (e1) (Ex.new ha))), plainT T (he.1.ex (Ex.trans (e1) (Ex.new ha))), fun d1 n1 n2 => ⟨rfl, d1, _, ?_, upd_same, ?_, ?_⟩⟩⟩
      · rw [upd_ne n2.symm, upd_ne n2.symm, upd_same]
      · rw [upd_ne n2] at n1
        exact n1
      · rw [upd_ne n2] at n1
        refine kE (fun z => h1 (decide_eq_true (show m.b.1 * m.s.2 ≤ m.s.1 * m.b.2 from z.1))) d1 _ _ (lkt (by decide +kernel) (lkt (by decide +kernel) lkh)) (lkt (by decide +kernel) lkh) lkh upd_same fun q o hq => ?_
        have hq := (e1) _ _ hq
        have q1 : q ≠ d1 := ne_of_none hq n1
        have q2 : q ≠ a := ne_of_none hq ha
        rw [upd_ne q1, del_ne q2, upd_ne q1, upd_ne q1, upd_ne q2, upd_ne q1, upd_ne q2]
        exact hq
    refine ⟨_, rfl, cmp_tm (hs2.1.ex e1) (ht2.1.ex e1) hs2.2.2.1 hs2.2.2.2 ht2.2.2.1 ht2.2.2.2 (fun _ _ => rfl) fun H2 e2 => ⟨_, rfl, ite2 (fun h2 => ?_) (fun h2 => ?_)⟩⟩
    rotate_left
    · refine iteT ?_
      refine ⟨_, rfl, _, rfl, _, rfl, (by show 3 ≤ 1000; decide), fun a ha => ⟨a, _, _, _, rfl, upd_same, .int _, plainT T (hb.1.ex (Ex.trans (e1.trans e2) (Ex.new ha))), plainT T (he.1.ex (Ex.trans (e1.trans e2) (Ex.new ha))), fun d1 n1 n2 => ⟨rfl, d1, _, ?_, upd_same, ?_, ?_⟩⟩⟩
      · rw [upd_ne n2.symm, upd_ne n2.symm, upd_same]
      · rw [upd_ne n2] at n1
        exact n1
      · rw [upd_ne n2] at n1
        refine kE (fun z => h2 (decide_eq_true (show m.s.1 * m.t.2 < m.t.1 * m.s.2 from z.2.1))) d1 _ _ (lkt (by decide +kernel) (lkt (by decide +kernel) lkh)) (lkt (by decide +kernel) lkh) lkh upd_same fun q o hq => ?_
        have hq := (e1.trans e2) _ _ hq
        have q1 : q ≠ d1 := ne_of_none hq n1
        have q2 : q ≠ a := ne_of_none hq ha
        rw [upd_ne q1, del_ne q2, upd_ne q1, upd_ne q1, upd_ne q2, upd_ne q1, upd_ne q2]
        exact hq
    refine ⟨_, rfl, cmp_tm ((ht2.1.ex e1).ex e2) ((he.1.ex e1).ex e2) ht2.2.2.1 ht2.2.2.2 he.2.2.1 he.2.2.2 (fun _ _ => rfl) fun H3 e3 => ⟨_, rfl, ite2 (fun h3 => ?_) (fun h3 => ?_)⟩⟩
    · refine ⟨_, rfl, _, rfl, _, rfl, (by show 3 ≤ 1000; decide), fun a ha => ⟨a, _, _, _, rfl, upd_same, .int _, plainT T (hb.1.ex (Ex.trans ((e1.trans e2).trans e3) (Ex.new ha))), plainT T (he.1.ex (Ex.trans ((e1.trans e2).trans e3) (Ex.new ha))), fun d1 n1 n2 => ⟨rfl, d1, _, ?_, upd_same, ?_, ?_⟩⟩⟩
      · rw [upd_ne n2.symm, upd_ne n2.symm, upd_same]
      · rw [upd_ne n2] at n1
        exact n1
      · rw [upd_ne n2] at n1
        refine kE (fun z => by rw [show gLe (m.t.1 * m.e.2) (m.e.1 * m.t.2) = true from decide_eq_true (show m.t.1 * m.e.2 ≤ m.e.1 * m.t.2 from z.2.2)] at h3; cases h3) d1 _ _ (lkt (by decide +kernel) (lkt (by decide +kernel) lkh)) (lkt (by decide +kernel) lkh) lkh upd_same fun q o hq => ?_
        have hq := ((e1.trans e2).trans e3) _ _ hq
        have q1 : q ≠ d1 := ne_of_none hq n1
        have q2 : q ≠ a := ne_of_none hq ha
        rw [upd_ne q1, del_ne q2, upd_ne q1, upd_ne q1, upd_ne q2, upd_ne q1, upd_ne q2]
        exact hq
    have EX : Ex H H3 := (e1.trans e2).trans e3
    have hok : m.ok := ⟨(of_decide_eq_true h1 : m.b.1 * m.s.2 ≤ m.s.1 * m.b.2), (of_decide_eq_true h2 : m.s.1 * m.t.2 < m.t.1 * m.s.2), Classical.byContradiction fun z => h3 (by rw [show gLe (m.t.1 * m.e.2) (m.e.1 * m.t.2) = false from decide_eq_false (show ¬ m.t.1 * m.e.2 ≤ m.e.1 * m.t.2 from z)]; rfl)⟩
    have K := KpP.ex (KpP.refl (p := p)) EX
    have g := EX _ _ hp
    have tb := hb.1.ex EX
    have te := he.1.ex EX
    have ts := hs2.1.ex EX
    have tt := ht2.1.ex EX
    clear e1 e2 e3 EX
    have nt : ([] : List (Str × V)).lookup ("top" : Str) = none := rfl
    refine ⟨_, rfl, _, rfl, p, CM, dx, [], rfl, g, TK.cl, TK.aT, (by show 0 < 1000; decide), ?_⟩
    have tb := tb.kp g nt (KpP.refl.upd (o := .ins CM dx (putF "tone" (.int m.n) [])))
    have te := te.kp g nt (KpP.refl.upd (o := .ins CM dx (putF "tone" (.int m.n) [])))
    have ts := ts.kp g nt (KpP.refl.upd (o := .ins CM dx (putF "tone" (.int m.n) [])))
    have tt := tt.kp g nt (KpP.refl.upd (o := .ins CM dx (putF "tone" (.int m.n) [])))
    have K := K.upd (o := .ins CM dx (putF "tone" (.int m.n) []))
    have nt : ((putF "tone" (.int m.n) []) : List (Str × V)).lookup ("top" : Str) = none := np (by decide +kernel) nt
    clear g
    refine ⟨_, rfl, xb, m.b.1, m.b.2, rfl, tb, hb.2.2.1.mono (by decide), fun vb Hb e1 mb => ?_⟩
    have K := K.ex e1
    have g := e1 _ _ upd_same
    have te := te.ex e1
    have ts := ts.ex e1
    have tt := tt.ex e1
    refine ⟨_, rfl, p, CM, dx, _, rfl, g, TK.cl, TK.aB, (by show 1 < 1000; decide), ?_⟩
    have te := te.kp g nt (KpP.refl.upd (o := .ins CM dx (putF "begin" vb (putF "tone" (.int m.n) []))))
    have ts := ts.kp g nt (KpP.refl.upd (o := .ins CM dx (putF "begin" vb (putF "tone" (.int m.n) []))))
    have tt := tt.kp g nt (KpP.refl.upd (o := .ins CM dx (putF "begin" vb (putF "tone" (.int m.n) []))))
    have mb := mb.kp g nt (KpP.refl.upd (o := .ins CM dx (putF "begin" vb (putF "tone" (.int m.n) []))))
    have K := K.upd (o := .ins CM dx (putF "begin" vb (putF "tone" (.int m.n) [])))
    have nt : ((putF "begin" vb (putF "tone" (.int m.n) [])) : List (Str × V)).lookup ("top" : Str) = none := np (by decide +kernel) nt
    clear g
    refine ⟨_, rfl, xe, m.e.1, m.e.2, rfl, te, he.2.2.1.mono (by decide), fun ve He e1 me => ?_⟩
    have K := K.ex e1
    have g := e1 _ _ upd_same
    have ts := ts.ex e1
    have tt := tt.ex e1
    have mb := mb.ex e1
    refine ⟨_, rfl, p, CM, dx, _, rfl, g, TK.cl, TK.aE, (by show 2 < 1000; decide), ?_⟩
    have ts := ts.kp g nt (KpP.refl.upd (o := .ins CM dx (putF "end" ve (putF "begin" vb (putF "tone" (.int m.n) [])))))
    have tt := tt.kp g nt (KpP.refl.upd (o := .ins CM dx (putF "end" ve (putF "begin" vb (putF "tone" (.int m.n) [])))))
    have mb := mb.kp g nt (KpP.refl.upd (o := .ins CM dx (putF "end" ve (putF "begin" vb (putF "tone" (.int m.n) [])))))
    have me := me.kp g nt (KpP.refl.upd (o := .ins CM dx (putF "end" ve (putF "begin" vb (putF "tone" (.int m.n) [])))))
    have K := K.upd (o := .ins CM dx (putF "end" ve (putF "begin" vb (putF "tone" (.int m.n) []))))
    have nt : ((putF "end" ve (putF "begin" vb (putF "tone" (.int m.n) []))) : List (Str × V)).lookup ("top" : Str) = none := np (by decide +kernel) nt
    clear g
    refine ⟨_, rfl, ys, m.s.1, m.s.2, rfl, ts, hs2.2.2.1.mono (by decide), fun vs Hs e1 ms => ?_⟩
    have K := K.ex e1
    have g := e1 _ _ upd_same
    have tt := tt.ex e1
    have mb := mb.ex e1
    have me := me.ex e1
    refine ⟨_, rfl, p, CM, dx, _, rfl, g, TK.cl, TK.aS, (by show 3 < 1000; decide), ?_⟩
    have tt := tt.kp g nt (KpP.refl.upd (o := .ins CM dx (putF "start" vs (putF "end" ve (putF "begin" vb (putF "tone" (.int m.n) []))))))
    have mb := mb.kp g nt (KpP.refl.upd (o := .ins CM dx (putF "start" vs (putF "end" ve (putF "begin" vb (putF "tone" (.int m.n) []))))))
    have me := me.kp g nt (KpP.refl.upd (o := .ins CM dx (putF "start" vs (putF "end" ve (putF "begin" vb (putF "tone" (.int m.n) []))))))
    have ms := ms.kp g nt (KpP.refl.upd (o := .ins CM dx (putF "start" vs (putF "end" ve (putF "begin" vb (putF "tone" (.int m.n) []))))))
    have K := K.upd (o := .ins CM dx (putF "start" vs (putF "end" ve (putF "begin" vb (putF "tone" (.int m.n) [])))))
    have nt : ((putF "start" vs (putF "end" ve (putF "begin" vb (putF "tone" (.int m.n) [])))) : List (Str × V)).lookup ("top" : Str) = none := np (by decide +kernel) nt
    clear g
    refine ⟨_, rfl, yt, m.t.1, m.t.2, rfl, tt, ht2.2.2.1.mono (by decide), fun vt Ht e1 mt => ?_⟩
    have K := K.ex e1
    have g := e1 _ _ upd_same
    have mb := mb.ex e1
    have me := me.ex e1
    have ms := ms.ex e1
    refine ⟨_, rfl, p, CM, dx, _, rfl, g, TK.cl, TK.aP, (by show 4 < 1000; decide), ?_⟩
    have mb := mb.kp g nt (KpP.refl.upd (o := .ins CM dx (putF "stop" vt (putF "start" vs (putF "end" ve (putF "begin" vb (putF "tone" (.int m.n) [])))))))
    have me := me.kp g nt (KpP.refl.upd (o := .ins CM dx (putF "stop" vt (putF "start" vs (putF "end" ve (putF "begin" vb (putF "tone" (.int m.n) [])))))))
    have ms := ms.kp g nt (KpP.refl.upd (o := .ins CM dx (putF "stop" vt (putF "start" vs (putF "end" ve (putF "begin" vb (putF "tone" (.int m.n) [])))))))
    have mt := mt.kp g nt (KpP.refl.upd (o := .ins CM dx (putF "stop" vt (putF "start" vs (putF "end" ve (putF "begin" vb (putF "tone" (.int m.n) [])))))))
    exact kQ hok vb ve vs vt _ K.upd upd_same mb me ms mt
/-! ### the law's own fractions -/
abbrev sLo : Stmt := top 23
theorem scLo : FnScope ["_law_top", "_law_bottom", "_law_part"] ["_law_top", "_law_bottom"] (defScope sLo) := ⟨rfl, rfl, rfl, by decide +kernel, rfl, by decide +kernel, by decide +kernel⟩
theorem ok_low {f : Addr} {fd : FuncData} (F : Fun K "_law_low" "_law_low" sLo f fd) (T : Txt K mg C) (OG : Ok P w K mg base CX0 1 "_law_gcd" ["_law_a", "_law_b"] spGcd) : FnOk P w K mg base CX0 2 f fd ["_law_top", "_law_bottom"] spLow := by
  obtain ⟨fGc, fdGc, GGc, mGc, kGc, bGc⟩ := OG
  refine F.ok scLo (fun vs H Q E h => ?_) (fun cdv A outer s H vs Q E hr h => ?_)
  · obtain ⟨n, d, rfl, _⟩ := h
    rfl
  · obtain ⟨n, d, rfl, hd, sn, sd, k⟩ := h
    have N := norm_mk (n := n) (Int.ne_of_gt hd)
    have sN := sg_ne (n := n) (Int.ne_of_gt hd)
    have ss : Sm 8000 (sg n d) := (sd.mono (by decide)).le (sg_le (Int.ne_of_gt hd))
    have e3 : ((Int.gcd n d : Nat) : Int) = sg n d := (if_pos hd).symm
    refine ⟨_, (pss_cons (ps_set (i := 2) scLo.nd rfl (Or.inl rfl) (pe_call GGc (hr.mono (by decide)) rfl mGc kGc bGc .nil pass0 (pa_cons (pv 0) (pa_cons (pv 1) pa_nil))))
 (pss_one (ps_ret (pe_tup (pa_cons (pe_op op_fdivNW (pv 0) (pv 2)) (pa_cons (pe_op op_fdivNW (pv 1) (pv 2)) pa_nil)))))), ?_⟩
    refine ⟨_, rfl, _, rfl, n, d, rfl, sn.mono (by decide), sd.mono (by decide), ?_⟩
    rw [e3]
    exact ⟨_, rfl, _, rfl, _, _, rfl, rfl, ss.cdiv sN, _, rfl, _, rfl, _, _, rfl, rfl, ss.cdiv sN, (by show 2 ≤ sizeLine; decide), fun p hp => k _ _ p _ N (Ex.new hp) upd_same⟩
abbrev sAd : Stmt := top 24
theorem scAd : FnScope ["_law_a", "_law_b"] ["_law_a", "_law_b"] (defScope sAd) := ⟨rfl, rfl, rfl, by decide +kernel, rfl, by decide +kernel, by decide +kernel⟩
theorem ok_addf {f : Addr} {fd : FuncData} (F : Fun K "_law_add" "_law_add" sAd f fd) (OL : Ok P w K mg base CX0 2 "_law_low" ["_law_top", "_law_bottom"] spLow) : FnOk P w K mg base CX0 4 f fd ["_law_a", "_law_b"] (spAddF K) := by
  obtain ⟨fLo, fdLo, GLo, mLo, kLo, bLo⟩ := OL
  refine F.ok scAd (fun vs H Q E h => ?_) (fun cdv A outer s H vs Q E hr h => ?_)
  · obtain ⟨pa, pb, n1, d1, n2, d2, rfl, _⟩ := h
    rfl
  · obtain ⟨pa, pb, n1, d1, n2, d2, rfl, ha, hb, p1, p2, s1, s2, s3, s4, k⟩ := h
    refine ⟨_, (pss_one (ps_ret (pe_call GLo (hr.mono (by decide)) rfl mLo kLo bLo .nil pass0 (pa_cons (pe_op op_add (pe_op op_mulW (pe_ix ix_tup (pv 0) pe_int (fun _ _ => rfl)) (pe_ix ix_tup (pv 1) pe_int (fun _ _ => rfl))) (pe_op op_mulW (pe_ix ix_tup (pv 1) pe_int (fun _ _ => rfl)) (pe_ix ix_tup (pv 0) pe_int (fun _ _ => rfl)))) (pa_cons (pe_op op_mulW (pe_ix ix_tup (pv 0) pe_int (fun _ _ => rfl)) (pe_ix ix_tup (pv 1) pe_int (fun _ _ => rfl))) pa_nil))))), ?_⟩
    refine ⟨_, rfl, _, _, _, _, rfl, rfl, ha, rfl, _, rfl, _, _, _, _, rfl, rfl, hb, rfl, _, _, rfl, rfl, s1.cmul s4, _, rfl, _, _, _, _, rfl, rfl, hb, rfl, _, rfl, _, _, _, _, rfl, rfl, ha, rfl, _, _, rfl, rfl, s3.cmul s2, _, _, rfl, rfl, _, rfl, _, _, _, _, rfl, rfl, ha, rfl, _, rfl, _, _, _, _, rfl, rfl, hb, rfl, _, _, rfl, rfl, s2.cmul s4, _, _, rfl, Int.mul_pos p1 p2, ((s1.mul s4).add (s3.mul s2)).mono (by decide), (s2.mul s4).mono (by decide), k⟩
abbrev sUn : Stmt := top 25
theorem scUn : FnScope ["_law_a", "_law_b"] ["_law_a", "_law_b"] (defScope sUn) := ⟨rfl, rfl, rfl, by decide +kernel, rfl, by decide +kernel, by decide +kernel⟩
theorem ok_under {f : Addr} {fd : FuncData} (F : Fun K "_law_under" "_law_under" sUn f fd) : FnOk P w K mg base CX0 1 f fd ["_law_a", "_law_b"] (spUnder K) := by
  refine F.ok scUn (fun vs H Q E h => ?_) (fun cdv A outer s H vs Q E hr h => ?_)
  · obtain ⟨pa, pb, n1, d1, n2, d2, rfl, _⟩ := h
    rfl
  · obtain ⟨pa, pb, n1, d1, n2, d2, rfl, ha, hb, s1, s2, s3, s4, k⟩ := h
    refine ⟨_, (pss_one (ps_ret (pe_cmpR op_lt (pe_op op_mulW (pe_ix ix_tup (pv 0) pe_int (fun _ _ => rfl)) (pe_ix ix_tup (pv 1) pe_int (fun _ _ => rfl))) (pe_op op_mulW (pe_ix ix_tup (pv 1) pe_int (fun _ _ => rfl)) (pe_ix ix_tup (pv 0) pe_int (fun _ _ => rfl))) (nomark _)))), ?_⟩
    exact ⟨_, rfl, _, _, _, _, rfl, rfl, ha, rfl, _, rfl, _, _, _, _, rfl, rfl, hb, rfl, _, _, rfl, rfl, s1.cmul s4, _, rfl, _, _, _, _, rfl, rfl, hb, rfl, _, rfl, _, _, _, _, rfl, rfl, ha, rfl, _, _, rfl, rfl, s3.cmul s2, _, _, rfl, rfl, k⟩
abbrev sVa : Stmt := top 31
theorem scVa : FnScope ["_law_times"] ["_law_times"] (defScope sVa) := ⟨rfl, rfl, rfl, by decide +kernel, rfl, by decide +kernel, by decide +kernel⟩
theorem ok_valid {f : Addr} {fd : FuncData} (F : Fun K "_law_valid" "_law_valid" sVa f fd) (OU : Ok P w K mg base CX0 1 "_law_under" ["_law_a", "_law_b"] (spUnder K)) : FnOk P w K mg base CX0 2 f fd ["_law_times"] spValid := by
  obtain ⟨fUn, fdUn, GUn, mUn, kUn, bUn⟩ := OU
  refine F.ok scVa (fun vs H Q E h => ?_) (fun cdv A outer s H vs Q E hr h => ?_)
  · obtain ⟨pt, m, rfl, _⟩ := h
    rfl
  · obtain ⟨pt, m, rfl, ⟨qb, qe, qs, qt, hl, hb, he, hs, ht⟩, hk, k⟩ := h
    have z : ∀ {x : Int × Int}, Fsz x → Sm 900 x.1 ∧ Sm 900 x.2 := fun h => ⟨h.2.1.mono (by decide), h.2.2.mono (by decide)⟩
    obtain ⟨zb1, zb2⟩ := z hk.b
    obtain ⟨ze1, ze2⟩ := z hk.e
    obtain ⟨zs1, zs2⟩ := z hk.s
    obtain ⟨zt1, zt2⟩ := z hk.t
    clear z
    refine ⟨_, (pss_cons (ps_if (PW.pt (pw_or (pt_not (pt_val (pe_call GUn (hr.mono (by decide)) rfl mUn kUn bUn .nil pass0 (pa_cons (pe_ix ix_list (pv 0) pe_int (fun _ _ => rfl)) (pa_cons (pe_ix ix_list (pv 0) pe_int (fun _ _ => rfl)) pa_nil))))) (pw_or1 (pt_val (pe_call GUn (hr.mono (by decide)) rfl mUn kUn bUn .nil pass0 (pa_cons (pe_ix ix_list (pv 0) pe_int (fun _ _ => rfl)) (pa_cons (pe_ix ix_list (pv 0) pe_int (fun _ _ => rfl)) pa_nil))))))) (pss_one (ps_ret pe_bl)) pss_nil)
 (pss_one (ps_ret (pe_and (pe_call GUn (hr.mono (by decide)) rfl mUn kUn bUn .nil pass0 (pa_cons (pe_ix ix_list (pv 0) pe_int (fun _ _ => rfl)) (pa_cons (pe_ix ix_list (pv 0) pe_int (fun _ _ => rfl)) pa_nil))) (pe_one (pe_not (pe_call GUn (hr.mono (by decide)) rfl mUn kUn bUn .nil pass0 (pa_cons (pe_ix ix_list (pv 0) pe_int (fun _ _ => rfl)) (pa_cons (pe_ix ix_list (pv 0) pe_int (fun _ _ => rfl)) pa_nil))))))))), ?_⟩
    refine ⟨_, rfl, pt, _, _, _, rfl, rfl, SqL.of hl, rfl, _, rfl, pt, _, _, _, rfl, rfl, SqL.of hl, rfl, _, _, _, _, _, _, rfl, SqT.of hb, SqT.of he, zb1, zb2, ze1, ze2, _, rfl, ite2 (fun h1 => iteT ?_) (fun h1 => ?_)⟩
    · refine k false ⟨fun q => Bool.noConfusion q, fun o => ?_⟩
      rw [decide_eq_true (m.ok_lt hk o)] at h1
      cases h1
    refine ⟨_, rfl, pt, _, _, _, rfl, rfl, SqL.of hl, rfl, _, rfl, pt, _, _, _, rfl, rfl, SqL.of hl, rfl, _, _, _, _, _, _, rfl, SqT.of hs, SqT.of hb, zs1, zs2, zb1, zb2, _, rfl, ite2 (fun h2 => ?_) (fun h2 => ?_)⟩
    · refine k false ⟨fun q => Bool.noConfusion q, fun o => ?_⟩
      have a := of_decide_eq_true h2
      have b : m.b.1 * m.s.2 ≤ m.s.1 * m.b.2 := o.1
      omega
    have h2 : ¬ m.s.1 * m.b.2 < m.b.1 * m.s.2 := fun q => h2 (decide_eq_true q)
    refine ⟨_, rfl, pt, _, _, _, rfl, rfl, SqL.of hl, rfl, _, rfl, pt, _, _, _, rfl, rfl, SqL.of hl, rfl, _, _, _, _, _, _, rfl, SqT.of hs, SqT.of ht, zs1, zs2, zt1, zt2, _, rfl, ite2 (fun h3 => ?_) (fun h3 => ?_)⟩
    · refine ⟨_, rfl, pt, _, _, _, rfl, rfl, SqL.of hl, rfl, _, rfl, pt, _, _, _, rfl, rfl, SqL.of hl, rfl, _, _, _, _, _, _, rfl, SqT.of he, SqT.of ht, ze1, ze2, zt1, zt2, _, rfl, k _ ?_⟩
      have h3 := of_decide_eq_true h3
      constructor
      · intro q
        have q2 : ¬ m.e.1 * m.t.2 < m.t.1 * m.e.2 := fun y => by rw [decide_eq_true y] at q; cases q
        exact ⟨(by omega : m.b.1 * m.s.2 ≤ m.s.1 * m.b.2), h3, (by omega : m.t.1 * m.e.2 ≤ m.e.1 * m.t.2)⟩
      · intro o
        have o3 : m.t.1 * m.e.2 ≤ m.e.1 * m.t.2 := o.2.2
        rw [decide_eq_false (show ¬ m.e.1 * m.t.2 < m.t.1 * m.e.2 by omega)]
        rfl
    · have h3 : ¬ m.s.1 * m.t.2 < m.t.1 * m.s.2 := fun q => h3 (decide_eq_true q)
      exact k false ⟨fun q => Bool.noConfusion q, fun o => absurd o.2.1 h3⟩
abbrev sPa : Stmt := top 29
theorem scPa : FnScope ["_law_pair", "_law_plain"] ["_law_pair", "_law_plain"] (defScope sPa) := ⟨rfl, rfl, rfl, by decide +kernel, rfl, by decide +kernel, by decide +kernel⟩
theorem ok_passed {f : Addr} {fd : FuncData} (F : Fun K "_law_passed" "_law_passed" sPa f fd) (T : Txt K mg C) (OI : OkI P w K mg base C CN) : FnOk P w K mg base CX0 6 f fd ["_law_pair", "_law_plain"] (spPassed C) := by
  obtain ⟨fI, fdI, dsI, GI, MkC, bI, vI1, bI1⟩ := OI
  refine F.ok scPa (fun vs H Q E h => ?_) (fun cdv A outer s H vs Q E hr h => ?_)
  · obtain ⟨p, x, i, rfl, _⟩ := h
    rfl
  · obtain ⟨p, x, i, rfl, hp, hx, k⟩ := h
    refine ⟨_, (pss_cons (ps_if (PW.pt (pw_and (pt_cmpR op_eq (pe_ix ix_tup (pv 0) pe_int (fun _ _ => rfl)) pe_int (nomark _)) (pw_and1 (pt_cmpR op_eq (pv 1) pe_int (nomark _))))) (pss_one (ps_ret (pe_ix ix_tup (pv 0) pe_int (fun _ _ => rfl)))) pss_nil)
 (pss_one (ps_ret (pe_make MkC GI (hr.mono (by decide)) rfl T.mgC bI .nil passL (pa_cons (pe_ix ix_tup (pv 0) pe_int (fun _ _ => rfl)) (pa_cons (pe_ix ix_tup (pv 0) pe_int (fun _ _ => rfl)) pa_nil)))))), ?_⟩
    refine ⟨_, rfl, _, _, _, _, rfl, rfl, SqT.of hp, rfl, rfl, _, rfl, ite2 (fun h1 => ?_) (fun h1 => ?_)⟩
    · have h1 : x.2 = 1 := by
        have z := of_decide_eq_true h1
        injection z
      refine ⟨_, rfl, rfl, _, rfl, ite2 (fun h2 => ?_) (fun h2 => ?_)⟩
      · have h2 : i = 1 := by
          have z := of_decide_eq_true h2
          injection z
        exact ⟨_, rfl, _, _, _, _, rfl, rfl, SqT.of hp, rfl, k _ _ (Ex.refl _) (.inl ⟨h1, h2, rfl⟩)⟩
      · refine ⟨_, rfl, _, _, _, _, rfl, rfl, SqT.of hp, rfl, _, rfl, _, _, _, _, rfl, rfl, SqT.of hp, rfl, ?_⟩
        exact mk_rd (hx.2.1.mono (by decide)) (hx.2.2.mono (by decide)) (Int.ne_of_gt hx.1.1) fun t2 b2 v H' N e m => by
          obtain ⟨e1, e2⟩ := red_norm N hx.1
          rw [e1, e2] at m
          exact k v H' e (.inr ⟨fun z => h2 (decide_eq_true (by rw [z.2])), m⟩)
    · refine iteF ?_
      refine ⟨_, rfl, _, _, _, _, rfl, rfl, SqT.of hp, rfl, _, rfl, _, _, _, _, rfl, rfl, SqT.of hp, rfl, ?_⟩
      exact mk_rd (hx.2.1.mono (by decide)) (hx.2.2.mono (by decide)) (Int.ne_of_gt hx.1.1) fun t2 b2 v H' N e m => by
        obtain ⟨e1, e2⟩ := red_norm N hx.1
        rw [e1, e2] at m
        exact k v H' e (.inr ⟨fun z => h1 (decide_eq_true (by rw [z.1])), m⟩)
def psMk : List Str := ["self", "tone", "begin", "end", "start", "stop"]
abbrev FMk (K : PySem.W.Frag) (f : Addr) (fd : FuncData) : Prop := FunD K "__init__" "Mark.__init__" (defArgs sMk) (defBody sMk) (defScope sMk) [] [("start", V.non), ("stop", V.non)] f fd
theorem mk_b0 {f : Addr} {fd : FuncData} (F : FMk K f fd) : ∃ ds, Vals [V.non, V.non] ds ∧ Binds K fd psMk ds := F.binds0 4 (by simp) rfl fun D doc pm an cdv ct us ks h1 h2 => match us, h1, ks, h2 with | [_, _, _, _], _, [_, _], _ => ⟨_, _, _, _, _, _, rfl, rfl, _, _, _, _, _, _, rfl, rfl, rfl⟩
theorem mk_k1 {f : Addr} {fd : FuncData} (F : FMk K f fd) : ∃ mv : List Value, KBn K fd psMk 4 ["stop"] (fun us ws => us ++ (mv ++ ws)) (fun vs zs => vs ++ ([V.non] ++ zs)) := F.kbinds0 4 ["stop"] [("start", V.non)] (fun us mv ws => us ++ (mv ++ ws)) (by simp) (by simp) (fun h1 h2 h3 => h1.append (h2.append h3)) fun D doc pm an cdv ct us mv ws h1 h2 h3 => match us, h1, mv, h2, ws, h3 with | [_, _, _, _], _, [_], _, [_], _ => ⟨_, _, _, _, _, _, rfl, rfl, rfl⟩
theorem mk_k2 {f : Addr} {fd : FuncData} (F : FMk K f fd) : ∃ mv : List Value, KBn K fd psMk 4 ["start"] (fun us ws => us ++ (ws ++ mv)) (fun vs zs => vs ++ (zs ++ [V.non])) := F.kbinds0 4 ["start"] [("stop", V.non)] (fun us mv ws => us ++ (ws ++ mv)) (by simp) (by simp) (fun h1 h2 h3 => h1.append (h3.append h2)) fun D doc pm an cdv ct us mv ws h1 h2 h3 => match us, h1, mv, h2, ws, h3 with | [_, _, _, _], _, [_], _, [_], _ => ⟨_, _, _, _, _, _, rfl, rfl, rfl⟩
theorem mk_k3 {f : Addr} {fd : FuncData} (F : FMk K f fd) : ∃ mv : List Value, KBn K fd psMk 4 ["start", "stop"] (fun us ws => us ++ ws) (fun vs zs => vs ++ zs) := F.kbinds0 4 ["start", "stop"] [] (fun us _ ws => us ++ ws) (by simp) (by simp) (fun h1 h2 h3 => h1.append h3) fun D doc pm an cdv ct us mv ws h1 h2 h3 => match us, h1, mv, h2, ws, h3 with | [_, _, _, _], _, [], _, [_, _], _ => rfl
abbrev sLm : Stmt := top 30
theorem scLm : FnScope ["_law_tone", "_law_times", "_law_plain", "_law_left", "_law_begin", "_law_end"] ["_law_tone", "_law_times", "_law_plain", "_law_left"] (defScope sLm) := ⟨rfl, rfl, rfl, by decide +kernel, rfl, by decide +kernel, by decide +kernel⟩
theorem ok_lmark {CM CK f fK fM : Addr} {fd fdM : FuncData} (F : Fun K "_law_mark" "_law_mark" sLm f fd) (TK : TxtK K mg CM CK fK) (MkM : Mk K CM fM) (GM : FnOk P w K mg base (L2.CX P w) 9 fM fdM psMk (spMark CM C CK)) (FM : FMk K fM fdM) (OP : Ok P w K mg base CX0 6 "_law_passed" ["_law_pair", "_law_plain"] (spPassed C)) :
    FnOk P w K mg base (L2.CX P w) 11 f fd ["_law_tone", "_law_times", "_law_plain", "_law_left"] (spMarkL CM C CK) := by
  obtain ⟨fPa, fdPa, GPa, mPa, kPa, bPa⟩ := OP
  obtain ⟨ds0, vM0, bM0⟩ := mk_b0 FM
  obtain ⟨mv1, bM1⟩ := mk_k1 FM
  obtain ⟨mv2, bM2⟩ := mk_k2 FM
  obtain ⟨mv3, bM3⟩ := mk_k3 FM
  refine F.okX scLm (fun vs H Q E h => ?_) (fun cdv A outer s H vs Q E hr h => ?_)
  · obtain ⟨p, m, i, lf, rfl, _⟩ := h
    rfl
  · obtain ⟨p, m, i, lf, rfl, ⟨qb, qe, qs, qt, hl, hb, he, hs, ht⟩, hk, hlf, kQ, kE⟩ := h
    refine ⟨_, (pss_cons (ps_set (i := 4) scLm.nd rfl (Or.inl rfl) (pe_call GPa (hr.mono (by decide)) rfl mPa kPa bPa .nil pass0 (pa_cons (pe_ix ix_list (pv 1) pe_int (fun _ _ => rfl)) (pa_cons (pv 2) pa_nil))))
 (pss_cons (ps_set (i := 5) scLm.nd rfl (Or.inl rfl) (pe_call GPa (hr.mono (by decide)) rfl mPa kPa bPa .nil pass0 (pa_cons (pe_ix ix_list (pv 1) pe_int (fun _ _ => rfl)) (pa_cons (pv 2) pa_nil))))
 (pss_cons (ps_if (pt_cmpR op_eq (pv 3) pe_int (nomark _)) (pss_one (ps_ret (pe_make (E := E) MkM GM (hr.mono (by decide)) rfl TK.mgM bM0 vM0 (passes_call (takes_of rfl rfl rfl rfl) fun _ _ _ _ h => h) (pa_cons (pv 0) (pa_cons (pv 4) (pa_cons (pv 5) pa_nil)))))) pss_nil)
 (pss_cons (ps_if (pt_cmpR op_eq (pv 3) pe_int (nomark _)) (pss_one (ps_ret (pe_makeK (E := E) MkM GM (hr.mono (by decide)) rfl TK.mgM bM1 (passes_call (takes_of rfl rfl rfl rfl) fun _ _ _ _ h => h) (pa_cons (pv 0) (pa_cons (pv 4) (pa_cons (pv 5) pa_nil))) (pk_cons (pe_call GPa (hr.mono (by decide)) rfl mPa kPa bPa .nil pass0 (pa_cons (pe_ix ix_list (pv 1) pe_int (fun _ _ => rfl)) (pa_cons (pv 2) pa_nil))) pk_nil)))) pss_nil)
 (pss_cons (ps_if (pt_cmpR op_eq (pv 3) pe_int (nomark _)) (pss_one (ps_ret (pe_makeK (E := E) MkM GM (hr.mono (by decide)) rfl TK.mgM bM2 (passes_call (takes_of rfl rfl rfl rfl) fun _ _ _ _ h => h) (pa_cons (pv 0) (pa_cons (pv 4) (pa_cons (pv 5) pa_nil))) (pk_cons (pe_call GPa (hr.mono (by decide)) rfl mPa kPa bPa .nil pass0 (pa_cons (pe_ix ix_list (pv 1) pe_int (fun _ _ => rfl)) (pa_cons (pv 2) pa_nil))) pk_nil)))) pss_nil)
 (pss_one (ps_ret (pe_makeK (E := E) MkM GM (hr.mono (by decide)) rfl TK.mgM bM3 (passes_call (takes_of rfl rfl rfl rfl) fun _ _ _ _ h => h) (pa_cons (pv 0) (pa_cons (pv 4) (pa_cons (pv 5) pa_nil))) (pk_cons (pe_call GPa (hr.mono (by decide)) rfl mPa kPa bPa .nil pass0 (pa_cons (pe_ix ix_list (pv 1) pe_int (fun _ _ => rfl)) (pa_cons (pv 2) pa_nil))) (pk_cons (pe_call GPa (hr.mono (by decide)) rfl mPa kPa bPa .nil pass0 (pa_cons (pe_ix ix_list (pv 1) pe_int (fun _ _ => rfl)) (pa_cons (pv 2) pa_nil))) pk_nil)))))))))), ?_⟩
    refine ⟨_, rfl, p, _, _, _, rfl, rfl, SqL.of hl, rfl, _, rfl, qb, m.b, i, rfl, hb, hk.b, fun xb H1 e1 pb => ?_⟩
    refine ⟨_, rfl, p, _, _, _, rfl, rfl, SqL.of (e1 _ _ hl), rfl, _, rfl, qe, m.e, i, rfl, e1 _ _ he, hk.e, fun xe H2 e2 pe => ?_⟩
    have pb := pb.ex e2
    have e12 := e1.trans e2
    rcases hlf with ⟨rfl, z1, z2⟩ | ⟨rfl, z1⟩ | ⟨rfl, z2⟩ | rfl
    · refine ⟨_, rfl, rfl, _, rfl, iteT ⟨_, rfl, _, rfl, _, rfl, ?_⟩⟩
      exact mark_rd (pb.ft hk.b) (pe.ft hk.e) (.inl ⟨rfl, z1⟩) (.inl ⟨rfl, z2⟩) (fun hn dd fs H' l1 l2 l3 h e => kE hn dd fs _ _ H' (e12.trans e) (pb.ex e) (pe.ex e) l1 l2 l3 h) (fun ho v H' e a => kQ ho v H' (e12.trans e) a)
    · refine ⟨_, rfl, rfl, _, rfl, iteF ⟨_, rfl, rfl, _, rfl, iteT ⟨_, rfl, _, rfl, _, rfl, ?_⟩⟩⟩
      refine ⟨_, rfl, p, _, _, _, rfl, rfl, SqL.of (e12 _ _ hl), rfl, _, rfl, qt, m.t, i, rfl, e12 _ _ ht, hk.t, fun xt H3 e3 pt => ⟨rfl, rfl, ?_⟩⟩
      have pb := pb.ex e3
      have pe := pe.ex e3
      exact mark_rd (pb.ft hk.b) (pe.ft hk.e) (.inl ⟨rfl, z1⟩) (.inr (pt.ft hk.t)) (fun hn dd fs H' l1 l2 l3 h e => kE hn dd fs _ _ H' ((e12.trans e3).trans e) (pb.ex e) (pe.ex e) l1 l2 l3 h) (fun ho v H' e a => kQ ho v H' ((e12.trans e3).trans e) a)
    · refine ⟨_, rfl, rfl, _, rfl, iteF ⟨_, rfl, rfl, _, rfl, iteF ⟨_, rfl, rfl, _, rfl, iteT ⟨_, rfl, _, rfl, _, rfl, ?_⟩⟩⟩⟩
      refine ⟨_, rfl, p, _, _, _, rfl, rfl, SqL.of (e12 _ _ hl), rfl, _, rfl, qs, m.s, i, rfl, e12 _ _ hs, hk.s, fun xs H3 e3 ps => ⟨rfl, rfl, ?_⟩⟩
      have pb := pb.ex e3
      have pe := pe.ex e3
      exact mark_rd (pb.ft hk.b) (pe.ft hk.e) (.inr (ps.ft hk.s)) (.inl ⟨rfl, z2⟩) (fun hn dd fs H' l1 l2 l3 h e => kE hn dd fs _ _ H' ((e12.trans e3).trans e) (pb.ex e) (pe.ex e) l1 l2 l3 h) (fun ho v H' e a => kQ ho v H' ((e12.trans e3).trans e) a)
    · refine ⟨_, rfl, rfl, _, rfl, iteF ⟨_, rfl, rfl, _, rfl, iteF ⟨_, rfl, rfl, _, rfl, iteF ⟨_, rfl, _, rfl, _, rfl, ?_⟩⟩⟩⟩
      refine ⟨_, rfl, p, _, _, _, rfl, rfl, SqL.of (e12 _ _ hl), rfl, _, rfl, qs, m.s, i, rfl, e12 _ _ hs, hk.s, fun xs H3 e3 ps => ?_⟩
      have e13 := e12.trans e3
      refine ⟨_, rfl, p, _, _, _, rfl, rfl, SqL.of (e13 _ _ hl), rfl, _, rfl, qt, m.t, i, rfl, e13 _ _ ht, hk.t, fun xt H4 e4 pt => ⟨rfl, rfl, ?_⟩⟩
      have pb := (pb.ex e3).ex e4
      have pe := (pe.ex e3).ex e4
      have ps := ps.ex e4
      exact mark_rd (pb.ft hk.b) (pe.ft hk.e) (.inr (ps.ft hk.s)) (.inr (pt.ft hk.t)) (fun hn dd fs H' l1 l2 l3 h e => kE hn dd fs _ _ H' ((e13.trans e4).trans e) (pb.ex e) (pe.ex e) l1 l2 l3 h) (fun ho v H' e a => kQ ho v H' ((e13.trans e4).trans e) a)
structure TxtM (K : PySem.W.Frag) (CM : Addr) : Prop where
  cc : PySem.W.findIn K (.ref CM) "__class__" = some (some (.builtin "object.__class__"))
  ob : PySem.W.mroIn K CM (.type "object") = some true
abbrev sKE : Stmt := inClass (top 18) 1
theorem scKE : FnScope ["self", "other"] ["self", "other"] (defScope sKE) := ⟨rfl, rfl, rfl, by decide +kernel, rfl, by decide +kernel, by decide +kernel⟩
theorem ok_keq {CM CK f fK fE : Addr} {fd dE : FuncData} (F : Fun K "__eq__" "Mark.__eq__" sKE f fd) (T : Txt K mg C) (TK : TxtK K mg CM CK fK) (TM : TxtM K CM) (heq : PySem.W.findIn K (.ref C) "__eq__" = some (some (.ref fE))) (heqf : PySem.W.isFn K (.ref fE) = true) (EF : FnOk P w K mg base CX0 1 fE dE ["self", "other"] (spEq2 C)) (Eb : Binds K dE ["self", "other"] []) :
    FnOk P w K mg base CX0 4 f fd ["self", "other"] (spKEq2 CM C) := by
  refine F.ok scKE (fun vs H Q E h => ?_) (fun cdv A outer s H vs Q E hr h => ?_)
  · obtain ⟨x, y, m, m', rfl, _⟩ := h
    rfl
  · obtain ⟨x, y, m, m', rfl, ⟨a, dx, b, e, s1, t, rfl, ha, hb, he, hs, ht⟩, ⟨a2, dx2, b2, e2, s2, t2, rfl, ha2, hb2, he2, hs2, ht2⟩, k⟩ := h
    let X := (cxOf CX0 P w K mg base ["self", "other"] "Mark.__eq__" (defScope sKE) f cdv A outer s H E).nox
    have oEq := op_cmp (X := X) (C := C) (op := .Eq) (E := E0) (fun _ _ => rfl) heq heqf EF (hr.mono (by decide)) Eb pass0
    refine ⟨_, (pss_one (ps_ret (pe_and (pe_callB (r := rIsi K) call_isi rfl T.isi PyProof.Rows.boot_isinstance (pa_cons (pv 1) (pa_cons (pe_glob (v := .ref CM) rfl TK.mgM rfl) pa_nil))) (pe_and (pe_cmpR op_eq (pe_fld (pv 0) rfl) (pe_fld (pv 1) rfl) (nomark _)) (pe_and (pe_cmpR oEq (pe_fld (pv 0) rfl) (pe_fld (pv 1) rfl) (nomark _)) (pe_and (pe_cmpR oEq (pe_fld (pv 0) rfl) (pe_fld (pv 1) rfl) (nomark _)) (pe_and (pe_cmpR oEq (pe_fld (pv 0) rfl) (pe_fld (pv 1) rfl) (nomark _)) (pe_one (pe_cmpR oEq (pe_fld (pv 0) rfl) (pe_fld (pv 1) rfl) (nomark _)))))))))), ?_⟩
    refine ⟨_, rfl, _, _, _, _, true, rfl, .own CM, .base (.ins ha2 TK.cl TM.cc T.clg T.clt TM.ob), kit_self, true, rfl, iteT ?_⟩
    refine ⟨_, rfl, a, CM, dx, _, _, rfl, ha, TK.cl, TK.aT, kf_tone, _, rfl, a2, CM, dx2, _, _, rfl, ha2, TK.cl, TK.aT, kf_tone, rfl, _, rfl, ite2 (fun h1 => ?_) (fun h1 => ?_)⟩
    rotate_left
    · exact k _ H ⟨fun z => Bool.noConfusion z, fun z => absurd (decide_eq_true (by rw [z])) h1⟩ (Ex.refl _)
    have q1 : m.n = m'.n := by
      have z := of_decide_eq_true h1
      injection z
    refine ⟨_, rfl, a, CM, dx, _, _, rfl, ha, TK.cl, TK.aB, kf_begin, _, rfl, a2, CM, dx2, _, _, rfl, ha2, TK.cl, TK.aB, kf_begin, hb.isC, hb2.par, _, _, _, _, rfl, hb, .inl ⟨_, _, hb2, fun k1 H1 x1 hk1 => ⟨k1, rfl, ite2 (fun h2 => ?_) (fun h2 => ?_)⟩⟩⟩
    rotate_left
    · exact k _ H1 ⟨fun z => Bool.noConfusion z, fun z => absurd (hk1.mpr (by rw [z]; exact ⟨rfl, rfl⟩)) h2⟩ x1
    have q2 : m.b = m'.b := Prod.ext (hk1.mp h2).1 (hk1.mp h2).2
    have ha := x1 _ _ ha
    have ha2 := x1 _ _ ha2
    refine ⟨_, rfl, a, CM, dx, _, _, rfl, ha, TK.cl, TK.aE, kf_end, _, rfl, a2, CM, dx2, _, _, rfl, ha2, TK.cl, TK.aE, kf_end, (he.ex x1).isC, (he2.ex x1).par, _, _, _, _, rfl, he.ex x1, .inl ⟨_, _, he2.ex x1, fun k2 H2 x2 hk2 => ⟨k2, rfl, ite2 (fun h3 => ?_) (fun h3 => ?_)⟩⟩⟩
    rotate_left
    · exact k _ H2 ⟨fun z => Bool.noConfusion z, fun z => absurd (hk2.mpr (by rw [z]; exact ⟨rfl, rfl⟩)) h3⟩ (x1.trans x2)
    have q3 : m.e = m'.e := Prod.ext (hk2.mp h3).1 (hk2.mp h3).2
    have ha := x2 _ _ ha
    have ha2 := x2 _ _ ha2
    have x12 := x1.trans x2
    refine ⟨_, rfl, a, CM, dx, _, _, rfl, ha, TK.cl, TK.aS, kf_start, _, rfl, a2, CM, dx2, _, _, rfl, ha2, TK.cl, TK.aS, kf_start, (hs.ex x12).isC, (hs2.ex x12).par, _, _, _, _, rfl, hs.ex x12, .inl ⟨_, _, hs2.ex x12, fun k3 H3 x3 hk3 => ⟨k3, rfl, ite2 (fun h4 => ?_) (fun h4 => ?_)⟩⟩⟩
    rotate_left
    · exact k _ H3 ⟨fun z => Bool.noConfusion z, fun z => absurd (hk3.mpr (by rw [z]; exact ⟨rfl, rfl⟩)) h4⟩ (x12.trans x3)
    have q4 : m.s = m'.s := Prod.ext (hk3.mp h4).1 (hk3.mp h4).2
    have ha := x3 _ _ ha
    have ha2 := x3 _ _ ha2
    have x13 := x12.trans x3
    refine ⟨_, rfl, a, CM, dx, _, _, rfl, ha, TK.cl, TK.aP, kf_stop, _, rfl, a2, CM, dx2, _, _, rfl, ha2, TK.cl, TK.aP, kf_stop, (ht.ex x13).isC, (ht2.ex x13).par, _, _, _, _, rfl, ht.ex x13, .inl ⟨_, _, ht2.ex x13, fun k4 H4 x4 hk4 => ?_⟩⟩
    exact k _ H4 ⟨fun z => kt_ext.mpr ⟨q1, q2, q3, q4, Prod.ext (hk4.mp z).1 (hk4.mp z).2⟩, fun z => hk4.mpr (by rw [z]; exact ⟨rfl, rfl⟩)⟩ (x13.trans x4)
abbrev sTr : Stmt := top 32
theorem scTr : FnScope ["_law_tone", "_law_times", "_law_plain", "_law_left", "_law_mark_here", "_law_refused", "e", "_law_due", "_law_held", "_law_k"] ["_law_tone", "_law_times", "_law_plain", "_law_left"] (defScope sTr) := ⟨rfl, rfl, rfl, by decide +kernel, rfl, by decide +kernel, by decide +kernel⟩
theorem ok_tried {CM CK f fK fE fLm : Addr} {fd dE dLm : FuncData} (F : Fun K "_law_tried" "_law_tried" sTr f fd) (T : Txt K mg C) (TK : TxtK K mg CM CK fK) (TX : XfC K CK) (hex : PySem.W.exmOne K (.ref CK) (.ref CK) = some true)
    (heq : PySem.W.findIn K (.ref C) "__eq__" = some (some (.ref fE))) (heqf : PySem.W.isFn K (.ref fE) = true) (EF : FnOk P w K mg base CX0 1 fE dE ["self", "other"] (spEq2 C)) (Eb : Binds K dE ["self", "other"] [])
    (GLm : FnOk P w K mg base (L2.CX P w) 11 fLm dLm ["_law_tone", "_law_times", "_law_plain", "_law_left"] (spMarkL CM C CK)) (mLm : mg "_law_mark" = some (.ref fLm)) (kLm : PySem.W.keepIn K (.ref fLm) = true) (bLm : Binds K dLm ["_law_tone", "_law_times", "_law_plain", "_law_left"] [])
    (OP : Ok P w K mg base CX0 6 "_law_passed" ["_law_pair", "_law_plain"] (spPassed C)) (OV : Ok P w K mg base CX0 2 "_law_valid" ["_law_times"] spValid) (OI : Ok P w K mg base CX0 1 "_law_is_int" ["_law_actual"] spIsInt) (OH : Ok P w K mg base CX0 2 "_law_holds" ["_law_actual", "_law_top", "_law_bottom"] (spHolds C)) :
    FnOk P w K mg base CX0 12 f fd ["_law_tone", "_law_times", "_law_plain", "_law_left"] (spTried CM C) := by
  obtain ⟨fPa, fdPa, GPa, mPa, kPa, bPa⟩ := OP
  obtain ⟨fVa, fdVa, GVa, mVa, kVa, bVa⟩ := OV
  obtain ⟨fIi, fdIi, GIi, mIi, kIi, bIi⟩ := OI
  obtain ⟨fHo, fdHo, GHo, mHo, kHo, bHo⟩ := OH
  refine F.ok scTr (fun vs H Q E h => ?_) (fun cdv A outer s H vs Q E hr h => ?_)
  · obtain ⟨p, m, i, lf, rfl, _⟩ := h
    rfl
  · obtain ⟨p, m, i, lf, rfl, hT, hk, hlf, k⟩ := h
    have hr0 : Room 2 (cxOf CX0 P w K mg base ["_law_tone", "_law_times", "_law_plain", "_law_left", "_law_mark_here", "_law_refused", "e", "_law_due", "_law_held", "_law_k"] "_law_tried" (defScope sTr) f cdv A outer s H E).nox.A := hr.mono (by decide)
    refine ⟨_, (pss_cons (ps_set (i := 4) scTr.nd rfl (Or.inl rfl) pe_non)
 (pss_cons (ps_set (i := 5) scTr.nd rfl (Or.inl rfl) pe_non)
 (pss_cons (ps_try_as (i := 6) (tb := fun W => tAsg (tCallS (spMarkL CM C CK) (WE W) (tCons (tVar 0) (tCons (tVar 1) (tCons (tVar 2) (tCons (tVar 3) tNil))))) (gName 4)) (ts := fun a cls d => tAsg (tLst (tCons (tXf a cls d CK "tone" (tVar 6)) (tCons (tXf a cls d CK "begin" (tVar 6)) (tCons (tXf a cls d CK "end" (tVar 6)) tNil)))) (gName 5)) (Wout := fun _ _ _ _ => False) rfl rfl scTr.nd rfl rfl ⟨rfl, by decide, Or.inl TK.mgK⟩ takes0 (fun W pn xe tk _ => pss_one (ps_set (i := 4) scTr.nd rfl (Or.inl rfl) (by exact (pe_callS GLm (hr.mono (by decide)) rfl mLm kLm bLm (fun σ => passAt tk σ) (by exact (pa_cons (pv 0) (pa_cons (pv 1) (pa_cons (pv 2) (pa_cons (pv 3) pa_nil))))))))) (fun a oe cls d pn hz hf => pss_one (ps_set (i := 5) scTr.nd rfl (Or.inl rfl) (by exact (pe_lst (pa_cons (pe_xf TX TK.nT hz hf (pv 6)) (pa_cons (pe_xf TX TK.nB hz hf (pv 6)) (pa_cons (pe_xf TX TK.nE hz hf (pv 6)) pa_nil))))))))
 (pss_cons (ps_if (pt_not (pt_val (pe_call GVa (hr.mono (by decide)) rfl mVa kVa bVa .nil pass0 (pa_cons (pv 1) pa_nil)))) (pss_cons (ps_set (i := 7) scTr.nd rfl (Or.inl rfl) (pe_lst (pa_cons (pv 0) (pa_cons (pe_call GPa (hr.mono (by decide)) rfl mPa kPa bPa .nil pass0 (pa_cons (pe_ix ix_list (pv 1) pe_int (fun _ _ => rfl)) (pa_cons (pv 2) pa_nil))) (pa_cons (pe_call GPa (hr.mono (by decide)) rfl mPa kPa bPa .nil pass0 (pa_cons (pe_ix ix_list (pv 1) pe_int (fun _ _ => rfl)) (pa_cons (pv 2) pa_nil))) pa_nil)))))
 (pss_one (ps_ret (pe_tup (pa_cons (pe_cmpR (op_eqEl heq heqf EF Eb hr0) (pv 5) (pv 7) (nomark _)) (pa_cons pe_non pa_nil)))))) pss_nil)
 (pss_cons (ps_if (PW.pt (pw_or (pt_cmpR op_notN (pv 5) pe_non (nomark _)) (pw_or (pt_not (pt_val (pe_call GIi (hr.mono (by decide)) rfl mIi kIi bIi .nil pass0 (pa_cons (pe_fld (pv 4) rfl) pa_nil)))) (pw_or1 (pt_cmpR op_ne (pe_fld (pv 4) rfl) (pv 0) (nomark _)))))) (pss_one (ps_ret (pe_tup (pa_cons pe_bl (pa_cons pe_non pa_nil))))) pss_nil)
 (pss_cons (ps_set (i := 8) scTr.nd rfl (Or.inl rfl) (pe_lst (pa_cons (pe_fld (pv 4) rfl) (pa_cons (pe_fld (pv 4) rfl) (pa_cons (pe_fld (pv 4) rfl) (pa_cons (pe_fld (pv 4) rfl) pa_nil))))))
 (pss_cons (ps_for PassesOwn.never rfl (pi_range1 rfl T.range (pa_cons pe_int pa_nil)) (pg_name (i := 9) scTr.nd rfl (Or.inl rfl)) (pss_one (ps_if (pt_not (pt_val (pe_call GHo (hr.mono (by decide)) rfl mHo kHo bHo .nil pass0 (pa_cons (pe_ix ix_list (pv 8) (pv 9) (fun _ _ => rfl)) (pa_cons (pe_ix ix_tup (pe_ix ix_list (pv 1) (pv 9) (fun _ _ => rfl)) pe_int (fun _ _ => rfl)) (pa_cons (pe_ix ix_tup (pe_ix ix_list (pv 1) (pv 9) (fun _ _ => rfl)) pe_int (fun _ _ => rfl)) pa_nil)))))) (pss_one (ps_ret (pe_tup (pa_cons pe_bl (pa_cons pe_non pa_nil))))) pss_nil)))
 (pss_one (ps_ret (pe_tup (pa_cons pe_bl (pa_cons (pv 4) pa_nil)))))))))))), ?_⟩
    by_cases ho : m.ok
    · refine ⟨_, rfl, _, rfl, _, rfl, _, rfl, p, m, i, lf, rfl, hT, hk, hlf, fun _ v H1 e1 mk => ?_, fun hn => absurd ho hn⟩
      have hT := hT.ex e1
      refine ⟨_, rfl, p, m, rfl, hT, hk, fun kk hkk => ?_⟩
      obtain rfl : kk = true := hkk.mpr ho
      refine ⟨true, rfl, iteF ?_⟩
      refine ⟨_, rfl, rfl, _, rfl, iteF ?_⟩
      obtain ⟨a, dx, b, e, s1, t, rfl, ha, hb, he, hs, ht⟩ := mk
      refine ⟨_, rfl, a, CM, dx, _, _, rfl, ha, TK.cl, TK.aT, kf_tone, _, rfl, fun H2 e2 => ⟨true, rfl, iteF ?_⟩⟩
      have ha := e2 _ _ ha
      refine ⟨_, rfl, a, CM, dx, _, _, rfl, ha, TK.cl, TK.aT, kf_tone, _, rfl, rfl, _, rfl, iteB (by rw [decide_eq_true rfl]; rfl) ?_⟩
      refine ⟨_, rfl, a, CM, dx, _, _, rfl, ha, TK.cl, TK.aB, kf_begin, _, rfl, a, CM, dx, _, _, rfl, ha, TK.cl, TK.aE, kf_end, _, rfl, a, CM, dx, _, _, rfl, ha, TK.cl, TK.aS, kf_start, _, rfl, a, CM, dx, _, _, rfl, ha, TK.cl, TK.aP, kf_stop, (by show 4 ≤ sizeLine; decide), fun hl hhl => ?_⟩
      have x := Ex.new (o := .lst [b, e, s1, t]) hhl
      have z1 := new_at x
      have e12 := (e1.trans e2).trans x
      have x2 := e2.trans x
      have M0 : MkA CM C m (.ref a) _ := ⟨a, dx, b, e, s1, t, rfl, x _ _ ha, hb.ex x2, he.ex x2, hs.ex x2, ht.ex x2⟩
      have hT := (hT.ex e2).ex x
      have hb := hb.ex x2
      have he := he.ex x2
      have hs := hs.ex x2
      have ht := ht.ex x2
      refine ⟨4, rfl, by decide, by decide, for_range (lo := 0) (n := (4 : Int).toNat) (fun j σ H' => ∃ v : Option V, σ = [some (.int m.n), some (.ref p), some (.int i), some (.int lf), some (.ref a), some .non, none, none, some (.ref hl), v] ∧ H' hl = some (.lst [b, e, s1, t]) ∧ MkA CM C m (.ref a) H' ∧ Times m p H' ∧ Ex H H' ∧ Mo C m.b.1 m.b.2 b H' ∧ Mo C m.e.1 m.e.2 e H' ∧ Mo C m.s.1 m.s.2 s1 H' ∧ Mo C m.t.1 m.t.2 t H')
        ⟨none, rfl, z1, M0, hT, e12, hb, he, hs, ht⟩ ?_ ?_⟩
      · clear hb he hs ht hT M0 z1 x x2 e12 ha
        rintro j σ H' hj ⟨v, rfl, zl, hM, hT, eX, hb, he, hs, ht⟩
        have e0 : (0 : Int) + (j : Int) = (j : Int) := Int.zero_add _
        rw [e0]
        have hT0 := hT
        obtain ⟨qb, qe, qs, qt, tl, tb, te, ts, tt⟩ := hT
        have hj4 : j = 0 ∨ j = 1 ∨ j = 2 ∨ j = 3 := by
          have : j < 4 := hj
          omega
        rcases hj4 with rfl | rfl | rfl | rfl
        · refine ⟨_, rfl, _, rfl, hl, _, _, b, rfl, rfl, SqL.of zl, atI_nat rfl, _, rfl, _, rfl, p, _, _, .ref qb, rfl, rfl, SqL.of tl, atI_nat rfl, _, _, _, _, rfl, rfl, SqT.of tb, rfl, _, rfl, _, rfl, p, _, _, .ref qb, rfl, rfl, SqL.of tl, atI_nat rfl, _, _, _, _, rfl, rfl, SqT.of tb, rfl, b, m.b.1, m.b.2, _, _, rfl, hb, hk.b.1, rfl, hk.b.hold.1, hk.b.hold.2, hk.b.hold.1, hk.b.hold.2, fun H2 e2 => ⟨true, rfl, iteF ?_⟩⟩
          exact ⟨_, rfl, e2 _ _ zl, hM.ex e2, hT0.ex e2, eX.trans e2, hb.ex e2, he.ex e2, hs.ex e2, ht.ex e2⟩
        · refine ⟨_, rfl, _, rfl, hl, _, _, e, rfl, rfl, SqL.of zl, atI_nat rfl, _, rfl, _, rfl, p, _, _, .ref qe, rfl, rfl, SqL.of tl, atI_nat rfl, _, _, _, _, rfl, rfl, SqT.of te, rfl, _, rfl, _, rfl, p, _, _, .ref qe, rfl, rfl, SqL.of tl, atI_nat rfl, _, _, _, _, rfl, rfl, SqT.of te, rfl, e, m.e.1, m.e.2, _, _, rfl, he, hk.e.1, rfl, hk.e.hold.1, hk.e.hold.2, hk.e.hold.1, hk.e.hold.2, fun H2 e2 => ⟨true, rfl, iteF ?_⟩⟩
          exact ⟨_, rfl, e2 _ _ zl, hM.ex e2, hT0.ex e2, eX.trans e2, hb.ex e2, he.ex e2, hs.ex e2, ht.ex e2⟩
        · refine ⟨_, rfl, _, rfl, hl, _, _, s1, rfl, rfl, SqL.of zl, atI_nat rfl, _, rfl, _, rfl, p, _, _, .ref qs, rfl, rfl, SqL.of tl, atI_nat rfl, _, _, _, _, rfl, rfl, SqT.of ts, rfl, _, rfl, _, rfl, p, _, _, .ref qs, rfl, rfl, SqL.of tl, atI_nat rfl, _, _, _, _, rfl, rfl, SqT.of ts, rfl, s1, m.s.1, m.s.2, _, _, rfl, hs, hk.s.1, rfl, hk.s.hold.1, hk.s.hold.2, hk.s.hold.1, hk.s.hold.2, fun H2 e2 => ⟨true, rfl, iteF ?_⟩⟩
          exact ⟨_, rfl, e2 _ _ zl, hM.ex e2, hT0.ex e2, eX.trans e2, hb.ex e2, he.ex e2, hs.ex e2, ht.ex e2⟩
        · refine ⟨_, rfl, _, rfl, hl, _, _, t, rfl, rfl, SqL.of zl, atI_nat rfl, _, rfl, _, rfl, p, _, _, .ref qt, rfl, rfl, SqL.of tl, atI_nat rfl, _, _, _, _, rfl, rfl, SqT.of tt, rfl, _, rfl, _, rfl, p, _, _, .ref qt, rfl, rfl, SqL.of tl, atI_nat rfl, _, _, _, _, rfl, rfl, SqT.of tt, rfl, t, m.t.1, m.t.2, _, _, rfl, ht, hk.t.1, rfl, hk.t.hold.1, hk.t.hold.2, hk.t.hold.1, hk.t.hold.2, fun H2 e2 => ⟨true, rfl, iteF ?_⟩⟩
          exact ⟨_, rfl, e2 _ _ zl, hM.ex e2, hT0.ex e2, eX.trans e2, hb.ex e2, he.ex e2, hs.ex e2, ht.ex e2⟩
      · rintro σ H' ⟨v, rfl, zl, hM, hT, eX, _⟩
        refine ⟨_, rfl, (by show 2 ≤ sizeLine; decide), fun q hq => ?_⟩
        exact k q _ _ (eX.trans (Ex.new hq)) upd_same (.inl ⟨ho, hM.ex (Ex.new hq)⟩)
    · refine ⟨_, rfl, _, rfl, _, rfl, _, rfl, p, m, i, lf, rfl, hT, hk, hlf, fun h => absurd h ho, fun _ dd fs xb xe H1 e1 pb pe l1 l2 l3 hd => ⟨true, hex, fun _ a0 ha0 => ?_, fun q => Bool.noConfusion q⟩⟩
      refine ⟨_, rfl, rfl, rfl, dd, fs, _, rfl, hd, l1, _, rfl, rfl, rfl, dd, fs, _, rfl, hd, l2, _, rfl, rfl, rfl, dd, fs, _, rfl, hd, l3, (by show 3 ≤ sizeLine; decide), fun r hr2 => ?_⟩
      have x := Ex.new (o := .lst [V.int m.n, xb, xe]) hr2
      have zr := new_at x
      have pb := pb.ex x
      have pe := pe.ex x
      have hT := (hT.ex e1).ex x
      have eX := e1.trans x
      refine ⟨_, rfl, p, m, rfl, hT, hk, fun kk hkk => ?_⟩
      obtain rfl : kk = false := Bool.eq_false_iff.mpr (fun z => ho (hkk.mp z))
      refine ⟨false, rfl, iteT ?_⟩
      obtain ⟨qb, qe, qs, qt, tl, tb, te, ts, tt⟩ := hT
      refine ⟨_, rfl, _, rfl, p, _, _, _, rfl, rfl, SqL.of tl, rfl, _, rfl, qb, m.b, i, rfl, tb, hk.b, fun xb2 H2 e2 pb2 => ?_⟩
      refine ⟨_, rfl, p, _, _, _, rfl, rfl, SqL.of (e2 _ _ tl), rfl, _, rfl, qe, m.e, i, rfl, e2 _ _ te, hk.e, fun xe2 H3 e3 pe2 => ⟨(by show 3 ≤ sizeLine; decide), fun du hdu => ?_⟩⟩
      have y := Ex.new (o := .lst [V.int m.n, xb2, xe2]) hdu
      have zd := new_at y
      have zr := y _ _ (e3 _ _ (e2 _ _ zr))
      have pb := ((pb.ex e2).ex e3).ex y
      have pe := ((pe.ex e2).ex e3).ex y
      have pb2 := (pb2.ex e3).ex y
      have pe2 := pe2.ex y
      refine ⟨_, rfl, _, rfl, ⟨r, du, _, _, rfl, rfl, zr, zd, .cons (.inl ⟨rfl, rfl, by simp [eqV]⟩) (.cons (psd_el pb pb2) (.cons (psd_el pe pe2) .nil))⟩, fun H' e => ⟨(by show 2 ≤ sizeLine; decide), fun q hq => ?_⟩⟩
      exact k q _ _ ((((eX.trans e2).trans e3).trans y).trans (Evl.Ex.trans e (Ex.new hq))) upd_same (.inr ⟨ho, rfl⟩)
abbrev sRo : Stmt := top 21
theorem scRo : FnScope ["_law_cell_here", "_law_sizes", "_law_out", "_law_size", "_law_seed", "_law_k", "_law_mixed"] ["_law_cell_here", "_law_sizes"] (defScope sRo) := ⟨rfl, rfl, rfl, by decide +kernel, rfl, by decide +kernel, by decide +kernel⟩
theorem getEl {ys zs : List Int} (hl : ys.length = zs.length) : True := trivial
theorem row_more {ys zs : List Int} {y z : Int} {i : Nat} (hy : ys.length = i) (hz : zs[i]? = some z) (h0 : 0 ≤ y) (h1 : y < z) (hb : ∀ (j : Nat) (a b : Int), ys[j]? = some a → zs[j]? = some b → 0 ≤ a ∧ a < b) :
    ∀ (j : Nat) (a b : Int), (ys ++ [y])[j]? = some a → zs[j]? = some b → 0 ≤ a ∧ a < b := by
  intro j a b e1 e2
  by_cases hj : j < i
  · rw [List.getElem?_append_left (by omega)] at e1
    exact hb j a b e1 e2
  · have : j = i := by
      have := (List.getElem?_eq_some_iff.mp e1).1
      simp at this
      omega
    subst this
    rw [List.getElem?_append_right (by omega), hy] at e1
    simp at e1
    subst e1
    rw [hz] at e2
    cases e2
    exact ⟨h0, h1⟩
theorem sm31 {z : Int} (h : 0 ≤ z ∧ z < 2147483648) : Sm 31 z := by
  unfold Sm
  omega
theorem ok_row {f : Addr} {fd : FuncData} (F : Fun K "_law_row" "_law_row" sRo f fd) (T : Txt K mg C) : FnOk P w K mg base CX0 1 f fd ["_law_cell_here", "_law_sizes"] (spRow K) := by
  refine F.ok scRo (fun vs H Q E h => ?_) (fun cdv A outer s H vs Q E hr h => ?_)
  · obtain ⟨c, l, zs, rfl, _⟩ := h
    rfl
  · obtain ⟨c, l, zs, rfl, hS, hl, hb, k⟩ := h
    refine ⟨_, (pss_cons (ps_set (i := 2) scRo.nd rfl (Or.inl rfl) (pe_lst pa_nil))
 (pss_cons (ps_if (pt_cmpR op_ge (pv 0) (pe_op op_pow pe_int pe_int) (nomark _)) (pss_cons (ps_for PassesOwn.never rfl (pi_list (pv 1)) (pg_name (i := 3) scRo.nd rfl (Or.inl rfl)) (pss_cons (ps_expr (pe_bm PySem.F.plainAttrs_list PySem.F.slot_list_append PySem.F.type_list_append mt_append (pv 2) (pa_cons (pe_op op_mod (pe_callTy call_int1 rfl T.int PyProof.Rows.boot_int (pa_cons (pv 0) pa_nil)) (pv 3)) pa_nil)))
 (pss_one (ps_set (i := 0) scRo.nd rfl (Or.inl rfl) (pe_op op_fdivNW (pv 0) (pv 3))))))
 (pss_one (ps_ret (pv 2)))) pss_nil)
 (pss_cons (ps_set (i := 4) scRo.nd rfl (Or.inl rfl) (pe_op op_mod (pe_callTy call_int1 rfl T.int PyProof.Rows.boot_int (pa_cons (pv 0) pa_nil)) pe_int))
 (pss_cons (ps_for PassesOwn.never rfl (pi_range1 rfl T.range (pa_cons (pe_callB call_len rfl T.len PySem.boot_len (pa_cons (pv 1) pa_nil)) pa_nil)) (pg_name (i := 5) scRo.nd rfl (Or.inl rfl)) (pss_cons (ps_set (i := 6) scRo.nd rfl (Or.inl rfl) (pe_op op_add (pe_op op_mod (pe_callTy call_int1 rfl T.int PyProof.Rows.boot_int (pa_cons (pe_op op_pow (pe_op op_add (pe_op op_add (pv 4) (pe_op op_mulW pe_int (pv 5))) pe_int) pe_int) pa_nil)) pe_int) (pv 5)))
 (pss_one (ps_expr (pe_bm PySem.F.plainAttrs_list PySem.F.slot_list_append PySem.F.type_list_append mt_append (pv 2) (pa_cons (pe_op op_mod (pe_callTy call_int1 rfl T.int PyProof.Rows.boot_int (pa_cons (pe_op op_mod (pe_callTy call_int1 rfl T.int PyProof.Rows.boot_int (pa_cons (pe_op op_mulW (pv 6) pe_int) pa_nil)) pe_int) pa_nil)) (pe_ix ix_list (pv 1) (pv 5) (fun _ _ => rfl))) pa_nil))))))
 (pss_one (ps_ret (pv 2))))))), ?_⟩
    refine ⟨by show 0 ≤ sizeLine; decide, fun o ho => ?_⟩
    have x0 : Ex H (upd H o (.lst [])) := Ex.new ho
    have hS' : ∀ {H' : Hp}, Ex H H' → SqL K H' l (zs.map V.int) := fun e => Evl.ex_l e hS
    refine ⟨_, rfl, _, _, rfl, rfl, ⟨by decide, by decide, by decide⟩, _, _, rfl, rfl, _, rfl, ?_⟩
    refine ite2 (fun e1 => ?_) (fun e1 => ?_)
    · refine ⟨_, rfl, l, rfl, ⟨_, hS' x0⟩, for_list (K := K) (a := l) (xs := zs.map V.int) (fun i σ H' => ∃ (c : Int) (ys : List Int) (v : Option V), σ = [some (.int c), some (.ref l), some (.ref o), v, none, none, none] ∧ Ex H H' ∧ H' o = some (.lst (ys.map V.int)) ∧ ys.length = i ∧
          ∀ (j : Nat) (a b : Int), ys[j]? = some a → zs[j]? = some b → 0 ≤ a ∧ a < b) ⟨c, [], none, rfl, x0, upd_same, rfl, fun j a b e => by simp at e⟩ (fun i σ H' _ ⟨_, _, _, _, e, _⟩ => hS' e) ?_ ?_⟩
      · rintro i y σ H' hi ⟨c, ys, v, rfl, e, hO, hy, hB⟩
        obtain ⟨z, hz, rfl⟩ : ∃ z, zs[i]? = some z ∧ y = V.int z := by
          rw [List.getElem?_map] at hi
          cases e : zs[i]? with
          | none =>
            rw [e] at hi
            cases hi
          | some z =>
            rw [e] at hi
            exact ⟨z, rfl, (Option.some.inj hi).symm⟩
        obtain ⟨z0, z1⟩ := hb z (List.mem_of_getElem? hz)
        refine ⟨_, rfl, .inl ⟨rfl, _, SqL.of hO⟩, _, rfl, .inl ⟨_, rfl, _, rfl, _, _, rfl, rfl, z0, o, _, _, rfl, rfl, hO, ?_, ?_⟩⟩
        · rw [List.length_map]
          exact small1000 (by have := (List.getElem?_eq_some_iff.mp hz).1; omega)
        · refine ⟨_, rfl, _, rfl, _, _, rfl, rfl, (sm31 (z := z) ⟨by omega, by omega⟩).cdiv (by omega), ?_⟩
          refine ⟨_, ys ++ [c % z], _, rfl, Evl.Ex.mut e ho, ?_, by simp [hy], row_more hy hz (Int.emod_nonneg c (by omega)) (Int.emod_lt_of_pos c z0) hB⟩
          rw [upd_same, List.map_append]
          rfl
      · rintro σ H' ⟨c, ys, v, rfl, e, hO, hy, hB⟩
        rw [List.length_map] at hy
        exact ⟨_, rfl, k o ys H' e hO hy hB⟩
    · refine ⟨_, rfl, .inl ⟨_, rfl, _, _, rfl, rfl, (by show (0 : Int) < 2147483647; decide), ?_⟩⟩
      have s0 := Int.emod_nonneg c (show (2147483647 : Int) ≠ 0 by decide)
      have s1 := Int.emod_lt_of_pos c (show (0 : Int) < 2147483647 by decide)
      refine ⟨_, rfl, _, _, rfl, .inl ⟨_, hS' x0, rfl⟩, ?_⟩
      rw [List.length_map]
      refine ⟨(zs.length : Int), rfl, by omega, by omega, for_range (lo := 0) (n := ((zs.length : Int)).toNat) (fun i σ H' => ∃ (ys : List Int) (v4 v5 : Option V), σ = [some (.int c), some (.ref l), some (.ref o), none, some (.int (c % 2147483647)), v4, v5] ∧ Ex H H' ∧ H' o = some (.lst (ys.map V.int)) ∧ ys.length = i ∧
          ∀ (j : Nat) (a b : Int), ys[j]? = some a → zs[j]? = some b → 0 ≤ a ∧ a < b) ⟨[], none, none, rfl, x0, upd_same, rfl, fun j a b e => by simp at e⟩ ?_ ?_⟩
      · rintro i σ H' hi ⟨ys, v4, v5, rfl, e, hO, hy, hB⟩
        have hi' : i < zs.length := by omega
        have hz : zs[i]? = some zs[i] := List.getElem?_eq_getElem hi'
        obtain ⟨z0, z1⟩ := hb _ (List.mem_of_getElem? hz)
        generalize zs[i] = z at *
        have e0 : (0 : Int) + (i : Int) = (i : Int) := Int.zero_add _
        rw [e0]
        have m1 : CMulW 7919 (i : Int) := Sm.cmul (k := 31) (j := 31) (sm31 ⟨by decide, by decide⟩) (sm31 ⟨by omega, by omega⟩)
        have b1 : (c % 2147483647 + 7919 * (i : Int) + 104729).natAbs < 2 ^ 64 := by omega
        refine ⟨_, rfl, _, rfl, _, _, rfl, rfl, m1, _, _, rfl, rfl, _, _, rfl, rfl, _, _, rfl, rfl, ⟨by decide, by decide, b1⟩, .inl ⟨_, rfl, _, _, rfl, rfl, (by show (0 : Int) < 2147483647; decide), _, rfl, _, _, rfl, rfl, ?_⟩⟩
        have p0 := Int.emod_nonneg ((c % 2147483647 + 7919 * (i : Int) + 104729) ^ (5 : Int).toNat) (show (2147483647 : Int) ≠ 0 by decide)
        have p1 := Int.emod_lt_of_pos ((c % 2147483647 + 7919 * (i : Int) + 104729) ^ (5 : Int).toNat) (show (0 : Int) < 2147483647 by decide)
        have m2 : CMulW ((c % 2147483647 + 7919 * (i : Int) + 104729) ^ (5 : Int).toNat % 2147483647 + (i : Int)) 40692 := Sm.cmul (k := 32) (j := 31) (by unfold Sm; omega) (sm31 ⟨by decide, by decide⟩)
        refine ⟨_, rfl, .inl ⟨rfl, _, SqL.of hO⟩, _, rfl, _, _, rfl, rfl, m2, .inl ⟨_, rfl, _, _, rfl, rfl, (by show (0 : Int) < 2147483629; decide), .inl ⟨_, rfl, _, rfl, _, rfl, l, _, _, .int z, rfl, rfl, hS' e, atI_nat (by rw [List.getElem?_map, hz]; rfl), _, _, rfl, rfl, z0, o, _, _, rfl, rfl, hO, ?_, ?_⟩⟩⟩
        · rw [List.length_map]
          exact small1000 (by omega)
        · refine ⟨ys ++ [((c % 2147483647 + 7919 * (i : Int) + 104729) ^ (5 : Int).toNat % 2147483647 + (i : Int)) * 40692 % 2147483629 % z], _, _, rfl, Evl.Ex.mut e ho, ?_, by simp [hy], row_more hy hz (Int.emod_nonneg _ (by omega)) (Int.emod_lt_of_pos _ z0) hB⟩
          rw [upd_same, List.map_append]
          rfl
      · rintro σ H' ⟨ys, v4, v5, rfl, e, hO, hy, hB⟩
        exact ⟨_, rfl, k o ys H' e hO (by omega) hB⟩
theorem big134 : Sm 134 (10 ^ (40 : Int).toNat : Int) := sml (by decide +kernel)
theorem big67 : Sm 67 (10 ^ (20 : Int).toNat : Int) := sml (by decide +kernel)
theorem smi {k : Nat} {z m : Int} (h0 : -m ≤ z) (h1 : z ≤ m) (hm : Sm k m) : Sm k z := Sm.ofR h0 h1 hm
abbrev sLaw : Stmt := top 33
theorem scLaw : FnScope ["_law_script", "_law_row_here", "_law_tone", "_law_origin", "_law_times", "_law_k", "_law_left", "_law_one", "_law_other_tone", "_law_others", "_law_two", "_law_same", "_law_pair"] ["_law_script"] (defScope sLaw) := ⟨rfl, rfl, rfl, by decide +kernel, rfl, by decide +kernel, by decide +kernel⟩
theorem ok_law {CM f fKE : Addr} {fd dKE : FuncData} (F : Fun K "law" "law" sLaw f fd) (T : Txt K mg C) (TOM : Opc K CM) (hne : PySem.W.findIn K (.ref CM) "__ne__" = some (some (.builtin "object.__ne__"))) (heq : PySem.W.findIn K (.ref CM) "__eq__" = some (some (.ref fKE))) (heqf : PySem.W.isFn K (.ref fKE) = true)
    (EF : FnOk P w K mg base CX0 4 fKE dKE ["self", "other"] (spKEq2 CM C)) (Eb : Binds K dKE ["self", "other"] [])
    (OC : Ok P w K mg base CX0 1 "_law_cell" ["_law_script", "_law_k"] (spCell K)) (OW : Ok P w K mg base CX0 1 "_law_whole" ["_law_cell_here", "_law_most"] spWhole) (OO : Ok P w K mg base CX0 1 "_law_row" ["_law_cell_here", "_law_sizes"] (spRow K))
    (OL : Ok P w K mg base CX0 2 "_law_low" ["_law_top", "_law_bottom"] spLow) (OA : Ok P w K mg base CX0 4 "_law_add" ["_law_a", "_law_b"] (spAddF K)) (OT : Ok P w K mg base CX0 12 "_law_tried" ["_law_tone", "_law_times", "_law_plain", "_law_left"] (spTried CM C)) : FnOk P w K mg base CX0 13 f fd ["_law_script"] (spLaw K) := by
  obtain ⟨fCe, fdCe, GCe, mCe, kCe, bCe⟩ := OC
  obtain ⟨fWh, fdWh, GWh, mWh, kWh, bWh⟩ := OW
  obtain ⟨fRo, fdRo, GRo, mRo, kRo, bRo⟩ := OO
  obtain ⟨fLo, fdLo, GLo, mLo, kLo, bLo⟩ := OL
  obtain ⟨fAd, fdAd, GAd, mAd, kAd, bAd⟩ := OA
  obtain ⟨fTr, fdTr, GTr, mTr, kTr, bTr⟩ := OT
  refine F.ok scLaw (fun vs H Q E h => ?_) (fun cdv A outer s H vs Q E hr h => ?_)
  · obtain ⟨a, ns, rfl, _⟩ := h
    rfl
  · obtain ⟨l, ns, rfl, hS, hlen, hQ⟩ := h
    let X := (cxOf CX0 P w K mg base ["_law_script", "_law_row_here", "_law_tone", "_law_origin", "_law_times", "_law_k", "_law_left", "_law_one", "_law_other_tone", "_law_others", "_law_two", "_law_same", "_law_pair"] "law" (defScope sLaw) f cdv A outer s H E).nox
    have oEqM := op_cmp (X := X) (C := CM) (op := .Eq) (E := E0) (fun _ _ => rfl) heq heqf EF (hr.mono (by decide)) Eb pass0
    have oNeM := op_neO (X := X) (C := CM) (E := E0) TOM hne heq heqf EF (hr.mono (by decide)) Eb pass0
    refine ⟨_, (pss_cons (ps_set (i := 1) scLaw.nd rfl (Or.inl rfl) (pe_call GRo (hr.mono (by decide)) rfl mRo kRo bRo .nil pass0 (pa_cons (pe_call GCe (hr.mono (by decide)) rfl mCe kCe bCe .nil pass0 (pa_cons (pv 0) (pa_cons pe_int pa_nil))) (pa_cons (pe_lst (pa_cons pe_int (pa_cons pe_int (pa_cons pe_int (pa_cons pe_int (pa_cons pe_int (pa_cons pe_int (pa_cons pe_int (pa_cons pe_int (pa_cons pe_int (pa_cons pe_int pa_nil))))))))))) pa_nil))))
 (pss_cons (ps_set (i := 2) scLaw.nd rfl (Or.inl rfl) (pe_call GWh (hr.mono (by decide)) rfl mWh kWh bWh .nil pass0 (pa_cons (pe_call GCe (hr.mono (by decide)) rfl mCe kCe bCe .nil pass0 (pa_cons (pv 0) (pa_cons pe_int pa_nil))) (pa_cons (pe_op op_pow pe_int pe_int) pa_nil))))
 (pss_cons (ps_set (i := 3) scLaw.nd rfl (Or.inl rfl) (pe_call GLo (hr.mono (by decide)) rfl mLo kLo bLo .nil pass0 (pa_cons (pe_call GWh (hr.mono (by decide)) rfl mWh kWh bWh .nil pass0 (pa_cons (pe_call GCe (hr.mono (by decide)) rfl mCe kCe bCe .nil pass0 (pa_cons (pv 0) (pa_cons pe_int pa_nil))) (pa_cons (pe_op op_pow pe_int pe_int) pa_nil))) (pa_cons (pe_op op_add pe_int (pe_op op_mulW (pe_ix ix_list (pv 1) pe_int (fun _ _ => rfl)) pe_int)) pa_nil))))
 (pss_cons (ps_set (i := 4) scLaw.nd rfl (Or.inl rfl) (pe_lst (pa_cons (pv 3) pa_nil)))
 (pss_cons (ps_for PassesOwn.never rfl (pi_range1 rfl T.range (pa_cons pe_int pa_nil)) (pg_name (i := 5) scLaw.nd rfl (Or.inl rfl)) (pss_one (ps_expr (pe_bm PySem.F.plainAttrs_list PySem.F.slot_list_append PySem.F.type_list_append mt_append (pv 4) (pa_cons (pe_call GAd (hr.mono (by decide)) rfl mAd kAd bAd .nil pass0 (pa_cons (pv 3) (pa_cons (pe_tup (pa_cons (pe_op op_sub (pe_ix ix_list (pv 1) (pv 5) (fun _ _ => rfl)) pe_int) (pa_cons (pe_op op_add pe_int (pe_ix ix_list (pv 1) pe_int (fun _ _ => rfl))) pa_nil))) pa_nil))) pa_nil)))))
 (pss_cons (ps_setLc (i := 4) (own := [("_law_one", 7)]) rfl scLaw.nd rfl rfl rfl (pi_list (pv 4)) (blkOk_by (N := ["_law_script", "_law_row_here", "_law_tone", "_law_origin", "_law_times", "_law_k", "_law_left", "_law_one", "_law_other_tone", "_law_others", "_law_two", "_law_same", "_law_pair"]) (sc := defScope sLaw) (by decide +kernel)) (fun _ _ _ _ _ => pg_name (i := 7) scLaw.nd rfl (Or.inl rfl)) (fun _ _ _ _ _ => pts_nil) (fun _ _ _ _ _ => (pe_tup (pa_cons (pe_ix (show IxR _ (rIxT K) from ix_tup) (pv 7) pe_int (fun _ _ => rfl)) (pa_cons (pe_ix (show IxR _ (rIxT K) from ix_tup) (pv 7) pe_int (fun _ _ => rfl)) pa_nil)))))
 (Evl.pss_cut (ps_set (i := 6) scLaw.nd rfl (Or.inl rfl) (pe_op op_add (pe_op op_mulW pe_int (pe_callTy call_int1 rfl T.int PyProof.Rows.boot_int (pa_cons (pe_cmpR op_gt (pe_ix ix_list (pv 1) pe_int (fun _ _ => rfl)) pe_int (nomark _)) pa_nil))) (pe_callTy call_int1 rfl T.int PyProof.Rows.boot_int (pa_cons (pe_cmpR op_gt (pe_ix ix_list (pv 1) pe_int (fun _ _ => rfl)) pe_int (nomark _)) pa_nil))))
 (Evl.pss_cut (ps_set (i := 6) scLaw.nd rfl (Or.inl rfl) (pe_ix ix_list (pe_lst (pa_cons pe_int (pa_cons pe_int (pa_cons pe_int (pa_cons pe_int pa_nil))))) (pv 6) (fun _ _ => rfl)))
 (Evl.pss_cut (ps_if (pt_cmpR op_eq (pe_ix ix_list (pv 1) pe_int (fun _ _ => rfl)) pe_int (nomark _)) (pss_one (ps_asg (pe_ix ix_list (pv 4) pe_int (fun _ _ => rfl)) (pg_sub (pv 4) pe_int set_list))) pss_nil)
 (Evl.pss_cut (ps_if (pt_cmpR op_eq (pe_ix ix_list (pv 1) pe_int (fun _ _ => rfl)) pe_int (nomark _)) (pss_one (ps_asg (pe_ix ix_list (pv 4) pe_int (fun _ _ => rfl)) (pg_sub (pv 4) pe_int set_list))) pss_nil)
 (pss_cons (ps_set (i := 7) scLaw.nd rfl (Or.inl rfl) (pe_call GTr (hr.mono (by decide)) rfl mTr kTr bTr .nil pass0 (pa_cons (pv 2) (pa_cons (pv 4) (pa_cons (pe_ix ix_list (pv 1) pe_int (fun _ _ => rfl)) (pa_cons (pv 6) pa_nil))))))
 (pss_cons (ps_set (i := 8) scLaw.nd rfl (Or.inl rfl) (pv 2))
 (pss_cons (ps_setLc (i := 9) (own := [("_law_pair", 12)]) rfl scLaw.nd rfl rfl rfl (pi_list (pv 4)) (blkOk_by (N := ["_law_script", "_law_row_here", "_law_tone", "_law_origin", "_law_times", "_law_k", "_law_left", "_law_one", "_law_other_tone", "_law_others", "_law_two", "_law_same", "_law_pair"]) (sc := defScope sLaw) (by decide +kernel)) (fun _ _ _ _ _ => pg_name (i := 12) scLaw.nd rfl (Or.inl rfl)) (fun _ _ _ _ _ => pts_nil) (fun _ _ _ _ _ => (pv 12)))
 (Evl.pss_cut (ps_if (pt_cmpR op_eq (pe_ix ix_list (pv 1) pe_int (fun _ _ => rfl)) pe_int (nomark _)) (pss_one (ps_set (i := 8) scLaw.nd rfl (Or.inl rfl) (pe_op op_add (pv 2) pe_int))) (pss_one (ps_if (pt_cmpR op_lt (pe_ix ix_list (pv 1) pe_int (fun _ _ => rfl)) pe_int (nomark _)) (pss_one (ps_asg (pe_call GAd (hr.mono (by decide)) rfl mAd kAd bAd .nil pass0 (pa_cons (pe_ix ix_list (pv 9) (pe_op op_sub (pe_ix ix_list (pv 1) pe_int (fun _ _ => rfl)) pe_int) (fun _ _ => rfl)) (pa_cons (pe_tup (pa_cons pe_int (pa_cons pe_int pa_nil))) pa_nil))) (pg_sub (pv 9) (pe_op op_sub (pe_ix ix_list (pv 1) pe_int (fun _ _ => rfl)) pe_int) set_list))) pss_nil)))
 (pss_cons (ps_set (i := 10) scLaw.nd rfl (Or.inl rfl) (pe_call GTr (hr.mono (by decide)) rfl mTr kTr bTr .nil pass0 (pa_cons (pv 8) (pa_cons (pv 9) (pa_cons (pe_ix ix_list (pv 1) pe_int (fun _ _ => rfl)) (pa_cons pe_int pa_nil))))))
 (pss_cons (ps_if (PW.pt (pw_or (pt_not (pt_val (pe_ix ix_tup (pv 7) pe_int (fun _ _ => rfl)))) (pw_or1 (pt_not (pt_val (pe_ix ix_tup (pv 10) pe_int (fun _ _ => rfl))))))) (pss_one (ps_ret pe_bl)) pss_nil)
 (pss_cons (ps_if (PW.pt (pw_or (pt_cmpR op_isN (pe_ix ix_tup (pv 7) pe_int (fun _ _ => rfl)) pe_non (nomark _)) (pw_or1 (pt_cmpR op_isN (pe_ix ix_tup (pv 10) pe_int (fun _ _ => rfl)) pe_non (nomark _))))) (pss_one (ps_ret pe_bl)) pss_nil)
 (Evl.pss_cut (ps_set (i := 11) scLaw.nd rfl (Or.inl rfl) (pe_and (pe_cmpR op_eq (pv 8) (pv 2) (nomark _)) (pe_one (pe_cmpR (op_eqD hr.units) (pv 9) (pv 4) (nomark _)))))
 (pss_one (ps_ret (pe_and (pe_cmpR op_eq (pe_cmpR oEqM (pe_ix ix_tup (pv 7) pe_int (fun _ _ => rfl)) (pe_ix ix_tup (pv 10) pe_int (fun _ _ => rfl)) (nomark _)) (pv 11) (nomark _)) (pe_one (pe_cmpR op_eq (pe_cmpR oNeM (pe_ix ix_tup (pv 7) pe_int (fun _ _ => rfl)) (pe_ix ix_tup (pv 10) pe_int (fun _ _ => rfl)) (nomark _)) (pe_not (pv 11)) (nomark _)))))))))))))))))))))))), ?_⟩
    have bigA : Sm 1000 (10 ^ (40 : Int).toNat : Int) := big134.mono (by decide)
    have bigB : Sm 1000 (10 ^ (20 : Int).toNat : Int) := big67.mono (by decide)
    refine ⟨_, rfl, l, ns, 2, rfl, hS, by decide, hlen, fun z5 => ⟨(by show 10 ≤ sizeLine; decide), fun q hq => ⟨z5, q, [13, 13, 13, 6, 2, 3, 3, 2, 12, 9], rfl, SqL.of upd_same, by decide, by decide +kernel, fun p ys H1 e1 hrow len hb => ?_⟩⟩⟩
    obtain ⟨r0, r1, r2, r3, r4, r5, r6, r7, r8, r9, rfl⟩ := ten_of len
    have b0 := hb 0 r0 _ rfl rfl
    have b1 := hb 1 r1 _ rfl rfl
    have b2 := hb 2 r2 _ rfl rfl
    have b3 := hb 3 r3 _ rfl rfl
    have b5 := hb 5 r5 _ rfl rfl
    have b6 := hb 6 r6 _ rfl rfl
    have b8 := hb 8 r8 _ rfl rfl
    have b9 := hb 9 r9 _ rfl rfl
    clear hb
    have hS := (hS.ex' (Ex.new hq)).ex' e1
    refine ⟨_, rfl, l, ns, 0, rfl, hS, by decide, hlen, fun z0 => ⟨_, _, rfl, rfl, ⟨by decide, by decide, by decide⟩, z0, (10 ^ (40 : Int).toNat : Int), rfl, by decide, bigA, fun tone _ _ => ?_⟩⟩
    have S9 : Sm 4 r9 := by have h1 := b9.1; have h2 := b9.2; unfold Sm; omega
    have S9b : Sm 10 (1 + r9 * 111) := by have h1 := b9.1; have h2 := b9.2; unfold Sm; omega
    refine ⟨_, rfl, l, ns, 1, rfl, hS, by decide, hlen, fun z1 => ⟨_, _, rfl, rfl, ⟨by decide, by decide, by decide⟩, z1, (10 ^ (20 : Int).toNat : Int), rfl, by decide, bigB, fun no l1 l2 => ?_⟩⟩
    have Sno : Sm 67 no := Sm.ofR l1 l2 big67
    refine ⟨_, rfl, p, _, _, _, rfl, rfl, SqL.of hrow, rfl, _, _, rfl, rfl, S9.cmul (sml (n := 111) (k := 7) (by decide)), _, _, rfl, rfl, no, 1 + r9 * 111, rfl, by omega, Sno.mono (by decide), S9b.mono (by decide), fun t0 d0 po H2 N0 e2 ho => ?_⟩
    have hrow := e2 _ _ hrow
    have F0 : F80 (t0, d0) := fsz_of N0 Sno S9b (by decide) (by decide)
    have So1 : Sm 67 t0 := N0.st Sno
    have So2 : Sm 10 d0 := N0.sb S9b
    have po0 := N0.pos
    refine ⟨_, rfl, (by show 1 ≤ sizeLine; decide), fun tl htl => ?_⟩
    have x := Ex.new (o := .lst [V.ref po]) htl
    refine ⟨3, rfl, by decide, by decide, for_range (lo := 0) (n := (3 : Int).toNat) (fun j σ H' => ∃ (vk : Option V) (xs : List V) (fr : List (Int × Int)), σ = [some (.ref l), some (.ref p), some (.int tone), some (.ref po), some (.ref tl), vk, none, none, none, none, none, none, none] ∧ Ex H2 H' ∧ H' tl = some (.lst xs) ∧ PrL xs fr H' ∧ fr.length = j + 1)
      ⟨none, _, [(t0, d0)], rfl, x, upd_same, .cons (x _ _ ho) F0 .nil, rfl⟩ ?_ ?_⟩
    · rintro j σ H' hj ⟨vk, xs, fr, rfl, eX, htl', hP, hfr⟩
      have hj3 : j < 3 := hj
      have e0 : (0 : Int) + (j : Int) = (j : Int) := Int.zero_add _
      rw [e0]
      obtain ⟨y, hy, y0, y1⟩ : ∃ y : Int, ([r0, r1, r2, r3, r4, r5, r6, r7, r8, r9] : List Int)[j]? = some y ∧ 0 ≤ y ∧ y < 13 := by
        have h4 : j = 0 ∨ j = 1 ∨ j = 2 := by omega
        rcases h4 with rfl | rfl | rfl
        · exact ⟨r0, rfl, b0⟩
        · exact ⟨r1, rfl, b1⟩
        · exact ⟨r2, rfl, b2⟩
      have Sy : Sm 5 (y - 2) := by unfold Sm; omega
      have S3 : Sm 4 (1 + r3) := by have h1 := b3.1; have h2 := b3.2; unfold Sm; omega
      have hrw := eX _ _ hrow
      refine ⟨_, rfl, .inl ⟨rfl, _, SqL.of htl'⟩, _, rfl, _, rfl, _, rfl, p, _, _, .int y, rfl, rfl, SqL.of hrw, atI_nat (by rw [List.getElem?_map, hy]; rfl), _, _, rfl, rfl, _, rfl, p, _, _, _, rfl, rfl, SqL.of hrw, rfl, _, _, rfl, rfl, (by show 2 ≤ sizeLine; decide), fun u hu => ?_⟩
      have x2 := Ex.new (o := .tup [V.int (y - 2), V.int (1 + r3)]) hu
      have hu2 := new_at x2
      refine ⟨po, u, t0, d0, y - 2, 1 + r3, rfl, SqT.of (x2 _ _ (eX _ _ ho)), SqT.of hu2, po0, by omega, So1.mono (by decide), So2.mono (by decide), Sy.mono (by decide), S3.mono (by decide), fun t b pn H5 N e hn => ?_⟩
      have hT5 := e _ _ (x2 _ _ htl')
      have F1 : F80 (t, b) := fsz_of N (((So1.mul S3).mono (show 67 + 4 ≤ 71 by decide)).add ((Sy.mul So2).mono (show 5 + 10 ≤ 71 by decide))) (So2.mul S3) (by decide) (by decide)
      refine ⟨tl, _, _, rfl, rfl, hT5, small1000 (by rw [hP.len]; omega), ?_⟩
      exact ⟨_, _, fr ++ [(t, b)], rfl, Evl.Ex.mut ((eX.trans x2).trans e) htl, upd_same, (((hP.ex x2).ex e).snoc hn F1).upd hT5, by rw [List.length_append, hfr]; rfl⟩
    · rintro σ H4 ⟨vk, xs, fr, rfl, eX, htl4, hP, hfr⟩
      have hrow4 := eX _ _ hrow
      refine ⟨_, rfl, tl, rfl, ⟨_, SqL.of htl4⟩, fun D hD => lc_list (xs := xs) (fun j H' => Ex H4 H' ∧ ∃ zs, H' D = some (.lst zs) ∧ PrL zs (fr.take j) H') ⟨Ex.new hD, [], upd_same, by rw [List.take_zero]; exact .nil⟩ (fun i H' _ z => SqL.of (z.1 _ _ htl4)) ?_ ?_⟩
      · rintro j x H' hj ⟨w1, zs, w2, w3⟩
        obtain ⟨q, y, rfl, hy, hq, hz⟩ := (hP.ex w1).get hj
        refine ⟨rfl, tyes_if ?_⟩
        refine ⟨_, rfl, _, _, _, _, rfl, rfl, SqT.of hq, rfl, _, rfl, _, _, _, _, rfl, rfl, SqT.of hq, rfl, (by show 2 ≤ sizeLine; decide), fun u hu => ?_⟩
        have x3 := Ex.new (o := .tup [V.int y.1, V.int y.2]) hu
        refine ⟨zs, x3 _ _ w2, small1000 (by rw [w3.len, List.length_take]; omega), Evl.Ex.mut (w1.trans x3) hD, _, upd_same, ?_⟩
        rw [List.take_add_one, hy]
        exact ((w3.ex x3).snoc (new_at x3) hz).upd (x3 _ _ w2)
      · rintro H5 ⟨w1, zs, w2, w3⟩
        rw [hP.len, List.take_length] at w3
        obtain ⟨q0, q1, q2, q3, f0, f1, f2, f3, rfl, rfl, g0, g1, g2, g3, z0, z1, z2, z3⟩ := w3.four hfr
        have hrow5 := w1 _ _ hrow4
        have hpD : p ≠ D := ne_of_none hrow4 hD
        have c1 : ∀ k : Bool, CMulW 2 (if k then 1 else 0) := fun k => by cases k <;> exact Sm.cmul (k := 2) (j := 2) (sml (by decide)) (sml (by decide))
        refine ⟨fun σ H' => ∃ L : Int, σ = [some (.ref l), some (.ref p), some (.int tone), some (.ref po), some (.ref D), vk, some (.int L), none, none, none, none, none, none] ∧ H5 = H' ∧ ((r5 = 0 ∧ r6 = 0 ∧ L = 0) ∨ (r5 = 0 ∧ r6 ≠ 0 ∧ L = 1) ∨ (r5 ≠ 0 ∧ r6 = 0 ∧ L = 2) ∨ (r5 ≠ 0 ∧ r6 ≠ 0 ∧ L = 3)),
          ⟨_, rfl, p, _, _, _, rfl, rfl, SqL.of hrow5, rfl, _, _, rfl, rfl, .inr ⟨_, rfl, _, _, rfl, rfl, c1 _, _, rfl, p, _, _, _, rfl, rfl, SqL.of hrow5, rfl, _, _, rfl, rfl, .inr ⟨_, rfl, _, _, rfl, rfl, ?_⟩⟩⟩, ?_⟩
        · refine ⟨_, rfl, rfl, ?_⟩
          by_cases a5 : r5 = 0 <;> by_cases a6 : r6 = 0
          · exact .inl ⟨a5, a6, by rw [a5, a6]; rfl⟩
          · exact .inr (.inl ⟨a5, a6, by rw [a5, decide_eq_true (show r6 > 0 by omega)]; rfl⟩)
          · exact .inr (.inr (.inl ⟨a5, a6, by rw [a6, decide_eq_true (show r5 > 0 by omega)]; rfl⟩))
          · exact .inr (.inr (.inr ⟨a5, a6, by rw [decide_eq_true (show r5 > 0 by omega), decide_eq_true (show r6 > 0 by omega)]; rfl⟩))
        rintro σ H' ⟨L, rfl, rfl, hL⟩
        refine ⟨fun σ H' => ∃ lf : Int, σ = [some (.ref l), some (.ref p), some (.int tone), some (.ref po), some (.ref D), vk, some (.int lf), none, none, none, none, none, none] ∧ Ex H5 H' ∧ ((r5 = 0 ∧ r6 = 0 ∧ lf = 0) ∨ (r5 = 0 ∧ r6 ≠ 0 ∧ lf = 2) ∨ (r5 ≠ 0 ∧ r6 = 0 ∧ lf = 1) ∨ (r5 ≠ 0 ∧ r6 ≠ 0 ∧ lf = 3)), ⟨(by show 4 ≤ sizeLine; decide), fun u hu => ?_⟩, ?_⟩
        · have x4 := Ex.new (o := .lst [V.int 0, V.int 2, V.int 1, V.int 3]) hu
          rcases hL with ⟨a5, a6, rfl⟩ | ⟨a5, a6, rfl⟩ | ⟨a5, a6, rfl⟩ | ⟨a5, a6, rfl⟩
          · exact ⟨_, rfl, u, _, _, _, rfl, rfl, SqL.of upd_same, rfl, _, rfl, x4, .inl ⟨a5, a6, rfl⟩⟩
          · exact ⟨_, rfl, u, _, _, _, rfl, rfl, SqL.of upd_same, rfl, _, rfl, x4, .inr (.inl ⟨a5, a6, rfl⟩)⟩
          · exact ⟨_, rfl, u, _, _, _, rfl, rfl, SqL.of upd_same, rfl, _, rfl, x4, .inr (.inr (.inl ⟨a5, a6, rfl⟩))⟩
          · exact ⟨_, rfl, u, _, _, _, rfl, rfl, SqL.of upd_same, rfl, _, rfl, x4, .inr (.inr (.inr ⟨a5, a6, rfl⟩))⟩
        rintro σ H6 ⟨lf, rfl, e6, hlf⟩
        have hrow6 := e6 _ _ hrow5
        have w6 := e6 _ _ w2
        have g0 := e6 _ _ g0
        have g1 := e6 _ _ g1
        have g2 := e6 _ _ g2
        have g3 := e6 _ _ g3
        refine ⟨fun σ H' => ∃ (q3' : Addr) (x3 : Int × Int), σ = [some (.ref l), some (.ref p), some (.int tone), some (.ref po), some (.ref D), vk, some (.int lf), none, none, none, none, none, none] ∧ H' p = some (.lst ([r0, r1, r2, r3, r4, r5, r6, r7, r8, r9].map V.int)) ∧ H' D = some (.lst [.ref q0, .ref q1, .ref q2, .ref q3']) ∧ H' q0 = some (.tup [.int f0.1, .int f0.2]) ∧ H' q1 = some (.tup [.int f1.1, .int f1.2]) ∧ H' q2 = some (.tup [.int f2.1, .int f2.2]) ∧ H' q3' = some (.tup [.int x3.1, .int x3.2]) ∧ F80 x3 ∧ (r5 = 0 → x3 = f1), ⟨_, rfl, p, _, _, _, rfl, rfl, SqL.of hrow6, rfl, rfl, _, rfl, ite2 (fun a => ?_) (fun a => ⟨q3, f3, rfl, hrow6, w6, g0, g1, g2, g3, z3, fun z => absurd (decide_eq_true (by rw [z])) a⟩)⟩, ?_⟩
        · refine ⟨_, rfl, D, _, _, _, rfl, rfl, SqL.of w6, rfl, _, rfl, D, _, _, 3, rfl, rfl, w6, rfl, ?_⟩
          exact ⟨q1, f1, rfl, by rw [upd_ne hpD]; exact hrow6, upd_same, tupK g0 w6, tupK g1 w6, tupK g2 w6, tupK g1 w6, z1, fun _ => rfl⟩
        clear g0 g1 g2 g3 w6 hrow6 e6
        rintro σ H7 ⟨q3', x3, rfl, hrow6, w6, g0, g1, g2, g3, zz3, i5⟩
        refine ⟨fun σ H' => ∃ (q2' : Addr) (x2 : Int × Int), σ = [some (.ref l), some (.ref p), some (.int tone), some (.ref po), some (.ref D), vk, some (.int lf), none, none, none, none, none, none] ∧ H' p = some (.lst ([r0, r1, r2, r3, r4, r5, r6, r7, r8, r9].map V.int)) ∧ H' D = some (.lst [.ref q0, .ref q1, .ref q2', .ref q3']) ∧ H' q0 = some (.tup [.int f0.1, .int f0.2]) ∧ H' q1 = some (.tup [.int f1.1, .int f1.2]) ∧ H' q2' = some (.tup [.int x2.1, .int x2.2]) ∧ H' q3' = some (.tup [.int x3.1, .int x3.2]) ∧ F80 x2 ∧ (r6 = 0 → x2 = f0), ⟨_, rfl, p, _, _, _, rfl, rfl, SqL.of hrow6, rfl, rfl, _, rfl, ite2 (fun a => ?_) (fun a => ⟨q2, f2, rfl, hrow6, w6, g0, g1, g2, g3, z2, fun z => absurd (decide_eq_true (by rw [z])) a⟩)⟩, ?_⟩
        · refine ⟨_, rfl, D, _, _, _, rfl, rfl, SqL.of w6, rfl, _, rfl, D, _, _, 2, rfl, rfl, w6, rfl, ?_⟩
          exact ⟨q0, f0, rfl, by rw [upd_ne hpD]; exact hrow6, upd_same, tupK g0 w6, tupK g1 w6, tupK g0 w6, tupK g3 w6, z0, fun _ => rfl⟩
        clear g0 g1 g2 g3 w6 hrow6
        rintro σ H8 ⟨q2', x2, rfl, hrow8, w8, g0, g1, g2, g3, zz2, i6⟩
        have hT : Times ⟨tone, f0, f1, x2, x3⟩ D H8 := ⟨q0, q1, q2', q3', w8, g0, g1, g2, g3⟩
        have hSz : KT.Sz ⟨tone, f0, f1, x2, x3⟩ := ⟨z0.fsz, z1.fsz, zz2.fsz, zz3.fsz⟩
        refine ⟨_, rfl, _, rfl, _, rfl, p, _, _, _, rfl, rfl, SqL.of hrow8, rfl, _, rfl, D, ⟨tone, f0, f1, x2, x3⟩, r4, lf, rfl, hT, hSz, ?_, fun qa va H9 e9 ha ca => ?_⟩
        · rcases hlf with ⟨a5, a6, rfl⟩ | ⟨a5, a6, rfl⟩ | ⟨a5, a6, rfl⟩ | ⟨a5, a6, rfl⟩
          · exact .inl ⟨rfl, i6 a6, i5 a5⟩
          · exact .inr (.inr (.inl ⟨rfl, i5 a5⟩))
          · exact .inr (.inl ⟨rfl, i6 a6⟩)
          · exact .inr (.inr (.inr rfl))
        have hrow9 := e9 _ _ hrow8
        have hT := hT.ex e9
        have w9 := e9 _ _ w8
        have k0 := e9 _ _ g0
        have k1 := e9 _ _ g1
        have k2 := e9 _ _ g2
        have k3 := e9 _ _ g3
        refine ⟨_, rfl, _, rfl, D, rfl, ⟨_, SqL.of w9⟩, fun D2 hD2 => lc_list (xs := [V.ref q0, V.ref q1, V.ref q2', V.ref q3']) (fun j H' => Ex H9 H' ∧ H' D2 = some (.lst (([V.ref q0, V.ref q1, V.ref q2', V.ref q3'] : List V).take j))) ⟨Ex.new hD2, upd_same⟩ (fun i H' _ z => SqL.of (z.1 _ _ w9)) ?_ ?_⟩
        · rintro j x H' hj ⟨w1, w2⟩
          refine ⟨rfl, tyes_if ⟨_, rfl, _, w2, small1000 (by rw [List.length_take]; show min j 4 ≤ 1000; omega), Evl.Ex.mut w1 hD2, ?_⟩⟩
          rw [upd_same, List.take_add_one, hj]
          rfl
        · rintro H10 ⟨w1, w2⟩
          have w2 : H10 D2 = some (.lst [V.ref q0, V.ref q1, V.ref q2', V.ref q3']) := w2
          have hrow10 := w1 _ _ hrow9
          have j0 := w1 _ _ k0
          have j1 := w1 _ _ k1
          have j2 := w1 _ _ k2
          have j3 := w1 _ _ k3
          refine ⟨fun σ H' => ∃ m2 : KT, σ = [some (.ref l), some (.ref p), some (.int tone), some (.ref po), some (.ref D), vk, some (.int lf), some (.ref qa), some (.int m2.n), some (.ref D2), none, none, none] ∧ Times m2 D2 H' ∧ m2.Sz ∧ Ex H9 H', ⟨_, rfl, p, _, _, _, rfl, rfl, SqL.of hrow10, rfl, rfl, _, rfl, ite2 (fun a => ?_) (fun a => ?_)⟩, ?_⟩
          · refine ⟨_, rfl, _, _, rfl, rfl, ?_⟩
            exact ⟨⟨tone + 1, f0, f1, x2, x3⟩, rfl, ⟨q0, q1, q2', q3', w2, j0, j1, j2, j3⟩, ⟨z0.fsz, z1.fsz, zz2.fsz, zz3.fsz⟩, w1⟩
          · refine ⟨_, rfl, p, _, _, _, rfl, rfl, SqL.of hrow10, rfl, _, _, rfl, rfl, _, rfl, ite2 (fun b => ?_) (fun b => ?_)⟩
            · have b := of_decide_eq_true b
              have a : r8 ≠ 0 := fun z => a (decide_eq_true (by rw [z]))
              obtain rfl | rfl | rfl | rfl : r8 = 1 ∨ r8 = 2 ∨ r8 = 3 ∨ r8 = 4 := by have := b8.1; omega
              · refine ⟨_, rfl, _, rfl, p, _, _, _, rfl, rfl, SqL.of hrow10, rfl, _, _, rfl, rfl, D2, _, _, _, rfl, rfl, SqL.of w2, rfl, (by show 2 ≤ sizeLine; decide), fun u hu => ?_⟩
                have x5 := Ex.new (o := .tup [V.int 1, V.int 7]) hu
                refine ⟨q0, u, f0.1, f0.2, 1, 7, rfl, SqT.of (x5 _ _ j0), SqT.of (new_at x5), z0.1.1, by decide, z0.2.1.mono (by decide), z0.2.2.mono (by decide), (sml (n := 1) (k := 1) (by decide)).mono (by decide), (sml (n := 7) (k := 3) (by decide)).mono (by decide), fun t b pn H11 N e hn => ?_⟩
                have w5 := e _ _ (x5 _ _ w2)
                refine ⟨_, rfl, _, rfl, p, _, _, _, rfl, rfl, SqL.of (e _ _ (x5 _ _ hrow10)), rfl, _, _, rfl, rfl, D2, _, _, 0, rfl, rfl, w5, rfl, ?_⟩
                have nz : Fsz (t, b) := ⟨N.red, (N.st ((z0.2.1.mul (sml (n := 7) (k := 3) (by decide))).add (((sml (n := 1) (k := 1) (by decide)).mul z0.2.2).mono (show 1 + 80 ≤ 83 by decide)))).mono (by decide), (N.sb (z0.2.2.mul (sml (n := 7) (k := 3) (by decide)))).mono (by decide)⟩
                exact ⟨⟨tone, (t, b), f1, x2, x3⟩, rfl, ⟨pn, q1, q2', q3', upd_same, tupK hn w5, tupK (e _ _ (x5 _ _ j1)) w5, tupK (e _ _ (x5 _ _ j2)) w5, tupK (e _ _ (x5 _ _ j3)) w5⟩, ⟨nz, z1.fsz, zz2.fsz, zz3.fsz⟩, Evl.Ex.mut ((w1.trans x5).trans e) hD2⟩
              · refine ⟨_, rfl, _, rfl, p, _, _, _, rfl, rfl, SqL.of hrow10, rfl, _, _, rfl, rfl, D2, _, _, _, rfl, rfl, SqL.of w2, rfl, (by show 2 ≤ sizeLine; decide), fun u hu => ?_⟩
                have x5 := Ex.new (o := .tup [V.int 1, V.int 7]) hu
                refine ⟨q1, u, f1.1, f1.2, 1, 7, rfl, SqT.of (x5 _ _ j1), SqT.of (new_at x5), z1.1.1, by decide, z1.2.1.mono (by decide), z1.2.2.mono (by decide), (sml (n := 1) (k := 1) (by decide)).mono (by decide), (sml (n := 7) (k := 3) (by decide)).mono (by decide), fun t b pn H11 N e hn => ?_⟩
                have w5 := e _ _ (x5 _ _ w2)
                refine ⟨_, rfl, _, rfl, p, _, _, _, rfl, rfl, SqL.of (e _ _ (x5 _ _ hrow10)), rfl, _, _, rfl, rfl, D2, _, _, 1, rfl, rfl, w5, rfl, ?_⟩
                have nz : Fsz (t, b) := ⟨N.red, (N.st ((z1.2.1.mul (sml (n := 7) (k := 3) (by decide))).add (((sml (n := 1) (k := 1) (by decide)).mul z1.2.2).mono (show 1 + 80 ≤ 83 by decide)))).mono (by decide), (N.sb (z1.2.2.mul (sml (n := 7) (k := 3) (by decide)))).mono (by decide)⟩
                exact ⟨⟨tone, f0, (t, b), x2, x3⟩, rfl, ⟨q0, pn, q2', q3', upd_same, tupK (e _ _ (x5 _ _ j0)) w5, tupK hn w5, tupK (e _ _ (x5 _ _ j2)) w5, tupK (e _ _ (x5 _ _ j3)) w5⟩, ⟨z0.fsz, nz, zz2.fsz, zz3.fsz⟩, Evl.Ex.mut ((w1.trans x5).trans e) hD2⟩
              · refine ⟨_, rfl, _, rfl, p, _, _, _, rfl, rfl, SqL.of hrow10, rfl, _, _, rfl, rfl, D2, _, _, _, rfl, rfl, SqL.of w2, rfl, (by show 2 ≤ sizeLine; decide), fun u hu => ?_⟩
                have x5 := Ex.new (o := .tup [V.int 1, V.int 7]) hu
                refine ⟨q2', u, x2.1, x2.2, 1, 7, rfl, SqT.of (x5 _ _ j2), SqT.of (new_at x5), zz2.1.1, by decide, zz2.2.1.mono (by decide), zz2.2.2.mono (by decide), (sml (n := 1) (k := 1) (by decide)).mono (by decide), (sml (n := 7) (k := 3) (by decide)).mono (by decide), fun t b pn H11 N e hn => ?_⟩
                have w5 := e _ _ (x5 _ _ w2)
                refine ⟨_, rfl, _, rfl, p, _, _, _, rfl, rfl, SqL.of (e _ _ (x5 _ _ hrow10)), rfl, _, _, rfl, rfl, D2, _, _, 2, rfl, rfl, w5, rfl, ?_⟩
                have nz : Fsz (t, b) := ⟨N.red, (N.st ((zz2.2.1.mul (sml (n := 7) (k := 3) (by decide))).add (((sml (n := 1) (k := 1) (by decide)).mul zz2.2.2).mono (show 1 + 80 ≤ 83 by decide)))).mono (by decide), (N.sb (zz2.2.2.mul (sml (n := 7) (k := 3) (by decide)))).mono (by decide)⟩
                exact ⟨⟨tone, f0, f1, (t, b), x3⟩, rfl, ⟨q0, q1, pn, q3', upd_same, tupK (e _ _ (x5 _ _ j0)) w5, tupK (e _ _ (x5 _ _ j1)) w5, tupK hn w5, tupK (e _ _ (x5 _ _ j3)) w5⟩, ⟨z0.fsz, z1.fsz, nz, zz3.fsz⟩, Evl.Ex.mut ((w1.trans x5).trans e) hD2⟩
              · refine ⟨_, rfl, _, rfl, p, _, _, _, rfl, rfl, SqL.of hrow10, rfl, _, _, rfl, rfl, D2, _, _, _, rfl, rfl, SqL.of w2, rfl, (by show 2 ≤ sizeLine; decide), fun u hu => ?_⟩
                have x5 := Ex.new (o := .tup [V.int 1, V.int 7]) hu
                refine ⟨q3', u, x3.1, x3.2, 1, 7, rfl, SqT.of (x5 _ _ j3), SqT.of (new_at x5), zz3.1.1, by decide, zz3.2.1.mono (by decide), zz3.2.2.mono (by decide), (sml (n := 1) (k := 1) (by decide)).mono (by decide), (sml (n := 7) (k := 3) (by decide)).mono (by decide), fun t b pn H11 N e hn => ?_⟩
                have w5 := e _ _ (x5 _ _ w2)
                refine ⟨_, rfl, _, rfl, p, _, _, _, rfl, rfl, SqL.of (e _ _ (x5 _ _ hrow10)), rfl, _, _, rfl, rfl, D2, _, _, 3, rfl, rfl, w5, rfl, ?_⟩
                have nz : Fsz (t, b) := ⟨N.red, (N.st ((zz3.2.1.mul (sml (n := 7) (k := 3) (by decide))).add (((sml (n := 1) (k := 1) (by decide)).mul zz3.2.2).mono (show 1 + 80 ≤ 83 by decide)))).mono (by decide), (N.sb (zz3.2.2.mul (sml (n := 7) (k := 3) (by decide)))).mono (by decide)⟩
                exact ⟨⟨tone, f0, f1, x2, (t, b)⟩, rfl, ⟨q0, q1, q2', pn, upd_same, tupK (e _ _ (x5 _ _ j0)) w5, tupK (e _ _ (x5 _ _ j1)) w5, tupK (e _ _ (x5 _ _ j2)) w5, tupK hn w5⟩, ⟨z0.fsz, z1.fsz, zz2.fsz, nz⟩, Evl.Ex.mut ((w1.trans x5).trans e) hD2⟩
            · exact ⟨⟨tone, f0, f1, x2, x3⟩, rfl, ⟨q0, q1, q2', q3', w2, j0, j1, j2, j3⟩, ⟨z0.fsz, z1.fsz, zz2.fsz, zz3.fsz⟩, w1⟩
          clear j0 j1 j2 j3 w2 hrow10
          rintro σ H13 ⟨m2, rfl, hT2, hSz2, e13⟩
          have hrow13 := e13 _ _ hrow9
          refine ⟨_, rfl, _, rfl, _, rfl, p, _, _, _, rfl, rfl, SqL.of hrow13, rfl, D2, m2, r7, 3, rfl, hT2, hSz2, .inr (.inr (.inr rfl)), fun qb vb H14 e14 hb cb => ?_⟩
          have ha := e14 _ _ (e13 _ _ ha)
          have e94 := e13.trans e14
          have hT := hT.ex e94
          have hT2 := hT2.ex e14
          refine ⟨_, rfl, _, _, _, _, rfl, rfl, SqT.of ha, rfl, true, rfl, iteF ⟨_, rfl, _, _, _, _, rfl, rfl, SqT.of hb, rfl, true, rfl, iteF ?_⟩⟩
          rcases ca with ⟨ho, mka⟩ | ⟨hno, rfl⟩
          rotate_left
          · exact ⟨_, rfl, _, _, _, _, rfl, rfl, SqT.of ha, rfl, rfl, _, rfl, iteA (decide_eq_true rfl) (iteT (hQ _))⟩
          have mka := mka.ex e94
          refine ⟨_, rfl, _, _, _, _, rfl, rfl, SqT.of ha, rfl, rfl, _, rfl, iteB (decide_eq_false mka.nn) ?_⟩
          rcases cb with ⟨ho2, mkb⟩ | ⟨hno, rfl⟩
          rotate_left
          · exact ⟨_, rfl, _, _, _, _, rfl, rfl, SqT.of hb, rfl, rfl, _, rfl, iteA (decide_eq_true rfl) (hQ _)⟩
          refine ⟨_, rfl, _, _, _, _, rfl, rfl, SqT.of hb, rfl, rfl, _, rfl, iteB (decide_eq_false mkb.nn) ?_⟩
          refine ⟨fun σ H' => ∃ k : Bool, σ = [some (.ref l), some (.ref p), some (.int tone), some (.ref po), some (.ref D), vk, some (.int lf), some (.ref qa), some (.int m2.n), some (.ref D2), some (.ref qb), some (.bl k), none] ∧ H14 = H' ∧ (k = true ↔ m2 = ⟨tone, f0, f1, x2, x3⟩), ⟨_, rfl, _, rfl, rfl, _, rfl, ite2 (fun a => ?_) (fun a => ?_)⟩, ?_⟩
          · have a : m2.n = tone := by
              have z := of_decide_eq_true a
              injection z
            refine ⟨_, rfl, _, rfl, dTimes m2, dTimes ⟨tone, f0, f1, x2, x3⟩, dp_times hT2, dp_times hT, rfl, rfl, ?_⟩
            exact ⟨_, rfl, rfl, by rw [eqv_times, kt_ext]; exact ⟨fun z => ⟨a, z⟩, fun z => z.2⟩⟩
          · exact ⟨false, rfl, rfl, fun z => Bool.noConfusion z, fun z => absurd (decide_eq_true (by rw [z])) a⟩
          rintro σ H15 ⟨k, rfl, rfl, hk⟩
          refine ⟨_, rfl, _, _, _, _, rfl, rfl, SqT.of ha, rfl, _, rfl, _, _, _, _, rfl, rfl, SqT.of hb, rfl, mka.isC, mkb.par, va, vb, _, _, rfl, mka, mkb, fun c1 H16 hc1 e16 => ⟨_, rfl, rfl, _, rfl, iteA ?_ ?_⟩⟩
          · have : c1 = k := Bool.eq_iff_iff.mpr (hc1.trans (Iff.trans ⟨Eq.symm, Eq.symm⟩ hk.symm))
            exact decide_eq_true (by rw [this])
          refine ⟨_, rfl, _, _, _, _, rfl, rfl, SqT.of (e16 _ _ ha), rfl, _, rfl, _, _, _, _, rfl, rfl, SqT.of (e16 _ _ hb), rfl, (mka.ex e16).isC, (mkb.ex e16).par, va, vb, _, _, rfl, mka.ex e16, mkb.ex e16, fun c2 H17 hc2 e17 => ⟨c2, rfl, _, rfl, k, rfl, rfl, ?_⟩⟩
          have : c2 = k := Bool.eq_iff_iff.mpr (hc2.trans (Iff.trans ⟨Eq.symm, Eq.symm⟩ hk.symm))
          subst this
          show Q (V.bl (decide (V.bl (!c2) = V.bl (!c2)))) H17
          rw [decide_eq_true rfl]
          exact hQ _
end
end Mo
namespace Mo
open PySem L2
theorem all_mk {P : Program} {w : World} {K : PySem.W.Frag} {h : Heap} {mg : Str → Option Value} {fa : Addr} (X : K.In h) (G : h.Ns mainGlobals mg) (hfa : mg "law" = some (.ref fa))
    {C CN CA NN TD CM CK NNK DK : Addr} {nmK qK : Str} {bsK : List Value} {snK : List Str} {subK : List Value} {abK : Bool} {colK : Option Bool} {ddK : Option Addr} {k0 k1 k2 k3 k5 : Option Value} {dTD : Option Addr} {slTD : Array (Option Value)} {nTD : Nat} {tkTD : Tok} {ocTD : Value} {nmN qN : Str} {bsN : List Value} {snN : List Str} {subN : List Value} {abN : Bool} {colN : Option Bool} {ddN : Option Addr} {m0 m1 m2 m3 m5 : Option Value}
    {fKp fCe fRo fGc fLo fAd fUn fIi fHo fWh fPa fLm fVa fTr fIt fAm fLaw fNM fIn fEq fLt fLe fGt fGe fNK fMk fKE : Addr} {odKp anKp odCe anCe odRo anRo odGc anGc odLo anLo odAd anAd odUn anUn odIi anIi odHo anHo odWh anWh odPa anPa odLm anLm odVa anVa odTr anTr odIt anIt odAm anAm odLaw anLaw odNM anNM odIn anIn odEq anEq odLt anLt odLe anLe odGt anGt odGe anGe odNK anNK odMk anMk odKE anKE : Option Addr} {slKp slCe slRo slGc slLo slAd slUn slIi slHo slWh slPa slLm slVa slTr slIt slAm slLaw slNM slIn slEq slLt slLe slGt slGe slNK slMk slKE : Array (Option Value)} {ocKp kVKp dcKp pmKp cdKp ctKp ocCe kVCe dcCe pmCe cdCe ctCe ocRo kVRo dcRo pmRo cdRo ctRo ocGc kVGc dcGc pmGc cdGc ctGc ocLo kVLo dcLo pmLo cdLo ctLo ocAd kVAd dcAd pmAd cdAd ctAd ocUn kVUn dcUn pmUn cdUn ctUn ocIi kVIi dcIi pmIi cdIi ctIi ocHo kVHo dcHo pmHo cdHo ctHo ocWh kVWh dcWh pmWh cdWh ctWh ocPa kVPa dcPa pmPa cdPa ctPa ocLm kVLm dcLm pmLm cdLm ctLm ocVa kVVa dcVa pmVa cdVa ctVa ocTr kVTr dcTr pmTr cdTr ctTr ocIt kVIt dcIt pmIt cdIt ctIt ocAm kVAm dcAm pmAm cdAm ctAm ocLaw kVLaw dcLaw pmLaw cdLaw ctLaw ocNM kVNM dcNM pmNM cdNM ctNM ocIn kVIn dcIn pmIn cdIn ctIn ocEq kVEq dcEq pmEq cdEq ctEq ocLt kVLt dcLt pmLt cdLt ctLt ocLe kVLe dcLe pmLe cdLe ctLe ocGt kVGt dcGt pmGt cdGt ctGt ocGe kVGe dcGe pmGe cdGe ctGe ocNK kVNK dcNK pmNK cdNK ctNK ocMk dcMk pmMk cdMk ctMk ocKE kVKE dcKE pmKE cdKE ctKE : Value}
    (aC : PySem.W.nsIn K mainGlobals "Moment" = some (some (.ref C)))
    (aN : PySem.W.nsIn K mainGlobals "NoMoment" = some (some (.ref CN)))
    (aK : PySem.W.nsIn K mainGlobals "NoMark" = some (some (.ref CK)))
    (aM : PySem.W.nsIn K mainGlobals "Mark" = some (some (.ref CM)))
    (aKp : PySem.W.nsIn K mainGlobals "_kept" = some (some (.ref fKp)))
    (lKp : K.lookup fKp = some ⟨ocKp, odKp, .func (PySem.W.fnOf "_kept" "_kept" (defArgs sKp) (defBody sKp) (defScope sKp) .none kVKp dcKp pmKp anKp cdKp ctKp), slKp⟩)
    (cKp : PySem.W.codeIn K cdKp "_kept" = true)
    (kKp : PySem.W.keepIn K (.ref fKp) = true)
    (aCe : PySem.W.nsIn K mainGlobals "_law_cell" = some (some (.ref fCe)))
    (lCe : K.lookup fCe = some ⟨ocCe, odCe, .func (PySem.W.fnOf "_law_cell" "_law_cell" (defArgs sCe) (defBody sCe) (defScope sCe) .none kVCe dcCe pmCe anCe cdCe ctCe), slCe⟩)
    (cCe : PySem.W.codeIn K cdCe "_law_cell" = true)
    (kCe : PySem.W.keepIn K (.ref fCe) = true)
    (aRo : PySem.W.nsIn K mainGlobals "_law_row" = some (some (.ref fRo)))
    (lRo : K.lookup fRo = some ⟨ocRo, odRo, .func (PySem.W.fnOf "_law_row" "_law_row" (defArgs sRo) (defBody sRo) (defScope sRo) .none kVRo dcRo pmRo anRo cdRo ctRo), slRo⟩)
    (cRo : PySem.W.codeIn K cdRo "_law_row" = true)
    (kRo : PySem.W.keepIn K (.ref fRo) = true)
    (aGc : PySem.W.nsIn K mainGlobals "_law_gcd" = some (some (.ref fGc)))
    (lGc : K.lookup fGc = some ⟨ocGc, odGc, .func (PySem.W.fnOf "_law_gcd" "_law_gcd" (defArgs sGc) (defBody sGc) (defScope sGc) .none kVGc dcGc pmGc anGc cdGc ctGc), slGc⟩)
    (cGc : PySem.W.codeIn K cdGc "_law_gcd" = true)
    (kGc : PySem.W.keepIn K (.ref fGc) = true)
    (aLo : PySem.W.nsIn K mainGlobals "_law_low" = some (some (.ref fLo)))
    (lLo : K.lookup fLo = some ⟨ocLo, odLo, .func (PySem.W.fnOf "_law_low" "_law_low" (defArgs sLo) (defBody sLo) (defScope sLo) .none kVLo dcLo pmLo anLo cdLo ctLo), slLo⟩)
    (cLo : PySem.W.codeIn K cdLo "_law_low" = true)
    (kLo : PySem.W.keepIn K (.ref fLo) = true)
    (aAd : PySem.W.nsIn K mainGlobals "_law_add" = some (some (.ref fAd)))
    (lAd : K.lookup fAd = some ⟨ocAd, odAd, .func (PySem.W.fnOf "_law_add" "_law_add" (defArgs sAd) (defBody sAd) (defScope sAd) .none kVAd dcAd pmAd anAd cdAd ctAd), slAd⟩)
    (cAd : PySem.W.codeIn K cdAd "_law_add" = true)
    (kAd : PySem.W.keepIn K (.ref fAd) = true)
    (aUn : PySem.W.nsIn K mainGlobals "_law_under" = some (some (.ref fUn)))
    (lUn : K.lookup fUn = some ⟨ocUn, odUn, .func (PySem.W.fnOf "_law_under" "_law_under" (defArgs sUn) (defBody sUn) (defScope sUn) .none kVUn dcUn pmUn anUn cdUn ctUn), slUn⟩)
    (cUn : PySem.W.codeIn K cdUn "_law_under" = true)
    (kUn : PySem.W.keepIn K (.ref fUn) = true)
    (aIi : PySem.W.nsIn K mainGlobals "_law_is_int" = some (some (.ref fIi)))
    (lIi : K.lookup fIi = some ⟨ocIi, odIi, .func (PySem.W.fnOf "_law_is_int" "_law_is_int" (defArgs sIi) (defBody sIi) (defScope sIi) .none kVIi dcIi pmIi anIi cdIi ctIi), slIi⟩)
    (cIi : PySem.W.codeIn K cdIi "_law_is_int" = true)
    (kIi : PySem.W.keepIn K (.ref fIi) = true)
    (aHo : PySem.W.nsIn K mainGlobals "_law_holds" = some (some (.ref fHo)))
    (lHo : K.lookup fHo = some ⟨ocHo, odHo, .func (PySem.W.fnOf "_law_holds" "_law_holds" (defArgs sHo) (defBody sHo) (defScope sHo) .none kVHo dcHo pmHo anHo cdHo ctHo), slHo⟩)
    (cHo : PySem.W.codeIn K cdHo "_law_holds" = true)
    (kHo : PySem.W.keepIn K (.ref fHo) = true)
    (aWh : PySem.W.nsIn K mainGlobals "_law_whole" = some (some (.ref fWh)))
    (lWh : K.lookup fWh = some ⟨ocWh, odWh, .func (PySem.W.fnOf "_law_whole" "_law_whole" (defArgs sWh) (defBody sWh) (defScope sWh) .none kVWh dcWh pmWh anWh cdWh ctWh), slWh⟩)
    (cWh : PySem.W.codeIn K cdWh "_law_whole" = true)
    (kWh : PySem.W.keepIn K (.ref fWh) = true)
    (aPa : PySem.W.nsIn K mainGlobals "_law_passed" = some (some (.ref fPa)))
    (lPa : K.lookup fPa = some ⟨ocPa, odPa, .func (PySem.W.fnOf "_law_passed" "_law_passed" (defArgs sPa) (defBody sPa) (defScope sPa) .none kVPa dcPa pmPa anPa cdPa ctPa), slPa⟩)
    (cPa : PySem.W.codeIn K cdPa "_law_passed" = true)
    (kPa : PySem.W.keepIn K (.ref fPa) = true)
    (aLm : PySem.W.nsIn K mainGlobals "_law_mark" = some (some (.ref fLm)))
    (lLm : K.lookup fLm = some ⟨ocLm, odLm, .func (PySem.W.fnOf "_law_mark" "_law_mark" (defArgs sLm) (defBody sLm) (defScope sLm) .none kVLm dcLm pmLm anLm cdLm ctLm), slLm⟩)
    (cLm : PySem.W.codeIn K cdLm "_law_mark" = true)
    (kLm : PySem.W.keepIn K (.ref fLm) = true)
    (aVa : PySem.W.nsIn K mainGlobals "_law_valid" = some (some (.ref fVa)))
    (lVa : K.lookup fVa = some ⟨ocVa, odVa, .func (PySem.W.fnOf "_law_valid" "_law_valid" (defArgs sVa) (defBody sVa) (defScope sVa) .none kVVa dcVa pmVa anVa cdVa ctVa), slVa⟩)
    (cVa : PySem.W.codeIn K cdVa "_law_valid" = true)
    (kVa : PySem.W.keepIn K (.ref fVa) = true)
    (aTr : PySem.W.nsIn K mainGlobals "_law_tried" = some (some (.ref fTr)))
    (lTr : K.lookup fTr = some ⟨ocTr, odTr, .func (PySem.W.fnOf "_law_tried" "_law_tried" (defArgs sTr) (defBody sTr) (defScope sTr) .none kVTr dcTr pmTr anTr cdTr ctTr), slTr⟩)
    (cTr : PySem.W.codeIn K cdTr "_law_tried" = true)
    (kTr : PySem.W.keepIn K (.ref fTr) = true)
    (aIt : PySem.W.nsIn K mainGlobals "is_time" = some (some (.ref fIt)))
    (lIt : K.lookup fIt = some ⟨ocIt, odIt, .func (PySem.W.fnOf "is_time" "is_time" (defArgs sIt) (defBody sIt) (defScope sIt) .none kVIt dcIt pmIt anIt cdIt ctIt), slIt⟩)
    (cIt : PySem.W.codeIn K cdIt "is_time" = true)
    (kIt : PySem.W.keepIn K (.ref fIt) = true)
    (aAm : PySem.W.nsIn K mainGlobals "as_moment" = some (some (.ref fAm)))
    (lAm : K.lookup fAm = some ⟨ocAm, odAm, .func (PySem.W.fnOf "as_moment" "as_moment" (defArgs sAm) (defBody sAm) (defScope sAm) .none kVAm dcAm pmAm anAm cdAm ctAm), slAm⟩)
    (cAm : PySem.W.codeIn K cdAm "as_moment" = true)
    (kAm : PySem.W.keepIn K (.ref fAm) = true)
    (aLaw : PySem.W.nsIn K mainGlobals "law" = some (some (.ref fLaw)))
    (lLaw : K.lookup fLaw = some ⟨ocLaw, odLaw, .func (PySem.W.fnOf "law" "law" (defArgs sLaw) (defBody sLaw) (defScope sLaw) .none kVLaw dcLaw pmLaw anLaw cdLaw ctLaw), slLaw⟩)
    (cLaw : PySem.W.codeIn K cdLaw "law" = true)
    (kLaw : PySem.W.keepIn K (.ref fLaw) = true)
    (aNM : PySem.W.findIn K (.ref CN) "__init__" = some (some (.ref fNM)))
    (lNM : K.lookup fNM = some ⟨ocNM, odNM, .func (PySem.W.fnOf "__init__" "NoMoment.__init__" (defArgs sNM) (defBody sNM) (defScope sNM) .none kVNM dcNM pmNM anNM cdNM ctNM), slNM⟩)
    (cNM : PySem.W.codeIn K cdNM "NoMoment.__init__" = true)
    (kNM : PySem.W.keepIn K (.ref fNM) = true)
    (iNM : PySem.W.isFn K (.ref fNM) = true)
    (aIn : PySem.W.findIn K (.ref C) "__init__" = some (some (.ref fIn)))
    (lIn : K.lookup fIn = some ⟨ocIn, odIn, .func (PySem.W.fnOf "__init__" "Moment.__init__" (defArgs sIn) (defBody sIn) (defScope sIn) (.ref TD) kVIn dcIn pmIn anIn cdIn ctIn), slIn⟩)
    (cIn : PySem.W.codeIn K cdIn "Moment.__init__" = true)
    (kIn : PySem.W.keepIn K (.ref fIn) = true)
    (iIn : PySem.W.isFn K (.ref fIn) = true)
    (aEq : PySem.W.findIn K (.ref C) "__eq__" = some (some (.ref fEq)))
    (lEq : K.lookup fEq = some ⟨ocEq, odEq, .func (PySem.W.fnOf "__eq__" "Moment.__eq__" (defArgs sEq) (defBody sEq) (defScope sEq) .none kVEq dcEq pmEq anEq cdEq ctEq), slEq⟩)
    (cEq : PySem.W.codeIn K cdEq "Moment.__eq__" = true)
    (kEq : PySem.W.keepIn K (.ref fEq) = true)
    (iEq : PySem.W.isFn K (.ref fEq) = true)
    (aLt : PySem.W.findIn K (.ref C) "__lt__" = some (some (.ref fLt)))
    (lLt : K.lookup fLt = some ⟨ocLt, odLt, .func (PySem.W.fnOf "__lt__" "Moment.__lt__" (defArgs sLt) (defBody sLt) (defScope sLt) .none kVLt dcLt pmLt anLt cdLt ctLt), slLt⟩)
    (cLt : PySem.W.codeIn K cdLt "Moment.__lt__" = true)
    (kLt : PySem.W.keepIn K (.ref fLt) = true)
    (iLt : PySem.W.isFn K (.ref fLt) = true)
    (aLe : PySem.W.findIn K (.ref C) "__le__" = some (some (.ref fLe)))
    (lLe : K.lookup fLe = some ⟨ocLe, odLe, .func (PySem.W.fnOf "__le__" "Moment.__le__" (defArgs sLe) (defBody sLe) (defScope sLe) .none kVLe dcLe pmLe anLe cdLe ctLe), slLe⟩)
    (cLe : PySem.W.codeIn K cdLe "Moment.__le__" = true)
    (kLe : PySem.W.keepIn K (.ref fLe) = true)
    (iLe : PySem.W.isFn K (.ref fLe) = true)
    (aGt : PySem.W.findIn K (.ref C) "__gt__" = some (some (.ref fGt)))
    (lGt : K.lookup fGt = some ⟨ocGt, odGt, .func (PySem.W.fnOf "__gt__" "Moment.__gt__" (defArgs sGt) (defBody sGt) (defScope sGt) .none kVGt dcGt pmGt anGt cdGt ctGt), slGt⟩)
    (cGt : PySem.W.codeIn K cdGt "Moment.__gt__" = true)
    (kGt : PySem.W.keepIn K (.ref fGt) = true)
    (iGt : PySem.W.isFn K (.ref fGt) = true)
    (aGe : PySem.W.findIn K (.ref C) "__ge__" = some (some (.ref fGe)))
    (lGe : K.lookup fGe = some ⟨ocGe, odGe, .func (PySem.W.fnOf "__ge__" "Moment.__ge__" (defArgs sGe) (defBody sGe) (defScope sGe) .none kVGe dcGe pmGe anGe cdGe ctGe), slGe⟩)
    (cGe : PySem.W.codeIn K cdGe "Moment.__ge__" = true)
    (kGe : PySem.W.keepIn K (.ref fGe) = true)
    (iGe : PySem.W.isFn K (.ref fGe) = true)
    (aNK : PySem.W.findIn K (.ref CK) "__init__" = some (some (.ref fNK)))
    (lNK : K.lookup fNK = some ⟨ocNK, odNK, .func (PySem.W.fnOf "__init__" "NoMark.__init__" (defArgs sNK) (defBody sNK) (defScope sNK) .none kVNK dcNK pmNK anNK cdNK ctNK), slNK⟩)
    (cNK : PySem.W.codeIn K cdNK "NoMark.__init__" = true)
    (kNK : PySem.W.keepIn K (.ref fNK) = true)
    (iNK : PySem.W.isFn K (.ref fNK) = true)
    (aMk : PySem.W.findIn K (.ref CM) "__init__" = some (some (.ref fMk)))
    (lMk : K.lookup fMk = some ⟨ocMk, odMk, .func (PySem.W.fnOf "__init__" "Mark.__init__" (defArgs sMk) (defBody sMk) (defScope sMk) .none (.ref DK) dcMk pmMk anMk cdMk ctMk), slMk⟩)
    (cMk : PySem.W.codeIn K cdMk "Mark.__init__" = true)
    (kMk : PySem.W.keepIn K (.ref fMk) = true)
    (iMk : PySem.W.isFn K (.ref fMk) = true)
    (aKE : PySem.W.findIn K (.ref CM) "__eq__" = some (some (.ref fKE)))
    (lKE : K.lookup fKE = some ⟨ocKE, odKE, .func (PySem.W.fnOf "__eq__" "Mark.__eq__" (defArgs sKE) (defBody sKE) (defScope sKE) .none kVKE dcKE pmKE anKE cdKE ctKE), slKE⟩)
    (cKE : PySem.W.codeIn K cdKE "Mark.__eq__" = true)
    (kKE : PySem.W.keepIn K (.ref fKE) = true)
    (iKE : PySem.W.isFn K (.ref fKE) = true)
    (pgC : PySem.W.plainGet K C Str.empty = true)
    (hdC : PySem.W.hasDictIn K C = true)
    (poC : PySem.W.plainOver K C = true)
    (saC : PySem.W.findIn K (.ref C) "__setattr__" = some (some (.builtin "object.__setattr__")))
    (mkC : PySem.W.makesIn K C = true)
    (kcC : PySem.W.keepIn K (.ref C) = true)
    (nTop : PySem.W.findIn K (.ref C) "top" = some none)
    (nBot : PySem.W.findIn K (.ref C) "bottom" = some none)
    (clC : PySem.W.findIn K (.ref C) "__class__" = some (some (.builtin "object.__class__")))
    (clG : PySem.W.specialIn K (.builtin "object.__class__") "__get__" = some (some (.builtin "getset_descriptor.__get__")))
    (clT : PySem.W.takesIn K (.builtin "object.__class__") = some true)
    (mroO : PySem.W.mroIn K C (.type "object") = some true)
    (icC : PySem.W.isClsIn K C = true)
    (tyC : PySem.W.typeIn K (.ref C) = some (.type "type"))
    (sfC : PySem.W.selfFirst K C = true)
    (nIC : PySem.W.subIn K (.ref C) (.type "int") = some false)
    (nLC : PySem.W.subIn K (.ref C) (.type "list") = some false)
    (nDC : PySem.W.subIn K (.ref C) (.type "dict") = some false)
    (obC : PySem.W.subIn K (.ref C) (.type "object") = some true)
    (gLen : PySem.W.nsIn K mainGlobals "len" = some none)
    (gAbs : PySem.W.nsIn K mainGlobals "abs" = some none)
    (gInt : PySem.W.nsIn K mainGlobals "int" = some none)
    (gBool : PySem.W.nsIn K mainGlobals "bool" = some none)
    (gIsi : PySem.W.nsIn K mainGlobals "isinstance" = some none)
    (gRange : PySem.W.nsIn K mainGlobals "range" = some none)
    (gLst : PySem.W.nsIn K mainGlobals "list" = some none)
    (gDct : PySem.W.nsIn K mainGlobals "dict" = some none)
    (gGcd : PySem.W.nsIn K mainGlobals "gcd" = some (some (.builtin "math.gcd")))
    (xN : K.lookup CN = some (excClassObj nmN qN CN NN bsN [.ref CA, .type "ValueError", .type "Exception", .type "BaseException", .type "object"] true snN subN abN colN ddN m0 m1 m2 m3 m5 "ValueError.__new__"))
    (saN : PySem.W.findIn K (.ref CN) "__setattr__" = some (some (.builtin "object.__setattr__")))
    (exN : PySem.W.subIn K (.ref CN) (.type "BaseException") = some true)
    (tyN : PySem.W.typeIn K (.ref CN) = some (.type "type"))
    (kcN : PySem.W.keepIn K (.ref CN) = true)
    (nTN : PySem.W.findIn K (.ref CN) "top" = some none)
    (nBN : PySem.W.findIn K (.ref CN) "bottom" = some none)
    (tIN : PySem.W.typeIn K (.ref fNM) = some (.type "function"))
    (lTD : K.lookup TD = some ⟨ocTD, dTD, .seq #[.int 1 tkTD] nTD, slTD⟩)
    (xK : K.lookup CK = some (excClassObj nmK qK CK NNK bsK [.ref CA, .type "ValueError", .type "Exception", .type "BaseException", .type "object"] true snK subK abK colK ddK k0 k1 k2 k3 k5 "ValueError.__new__"))
    (saK : PySem.W.findIn K (.ref CK) "__setattr__" = some (some (.builtin "object.__setattr__")))
    (exK : PySem.W.subIn K (.ref CK) (.type "BaseException") = some true)
    (tyK : PySem.W.typeIn K (.ref CK) = some (.type "type"))
    (kcK : PySem.W.keepIn K (.ref CK) = true)
    (nTK : PySem.W.findIn K (.ref CK) "tone" = some none)
    (nBK : PySem.W.findIn K (.ref CK) "begin" = some none)
    (nEK : PySem.W.findIn K (.ref CK) "end" = some none)
    (tIK : PySem.W.typeIn K (.ref fNK) = some (.type "function"))
    (gaK : PySem.W.findIn K (.ref CK) "__getattribute__" = some (some (.builtin "BaseException.__getattribute__")))
    (ggK : PySem.W.findIn K (.ref CK) "__getattr__" = some none)
    (hdK : PySem.W.hasDictIn K CK = true)
    (icK : PySem.W.isClsIn K CK = true)
    (ssK : PySem.W.subIn K (.ref CK) (.ref CK) = some true)
    (pgM : PySem.W.plainGet K CM Str.empty = true)
    (hdM : PySem.W.hasDictIn K CM = true)
    (poM : PySem.W.plainOver K CM = true)
    (saM : PySem.W.findIn K (.ref CM) "__setattr__" = some (some (.builtin "object.__setattr__")))
    (mkM : PySem.W.makesIn K CM = true)
    (kcM : PySem.W.keepIn K (.ref CM) = true)
    (nM0 : PySem.W.findIn K (.ref CM) "tone" = some none)
    (nM1 : PySem.W.findIn K (.ref CM) "begin" = some none)
    (nM2 : PySem.W.findIn K (.ref CM) "end" = some none)
    (nM3 : PySem.W.findIn K (.ref CM) "start" = some none)
    (nM4 : PySem.W.findIn K (.ref CM) "stop" = some none)
    (clM : PySem.W.findIn K (.ref CM) "__class__" = some (some (.builtin "object.__class__")))
    (mroM : PySem.W.mroIn K CM (.type "object") = some true)
    (sfM : PySem.W.selfFirst K CM = true)
    (nIM : PySem.W.subIn K (.ref CM) (.type "int") = some false)
    (obM : PySem.W.subIn K (.ref CM) (.type "object") = some true)
    (neM : PySem.W.findIn K (.ref CM) "__ne__" = some (some (.builtin "object.__ne__")))
    (nS : PySem.W.nsIn K DK "start" = some (some .none))
    (nP : PySem.W.nsIn K DK "stop" = some (some .none)) :
    ∃ fd : FuncData, (∀ (s : Shared) (u : Value), BindsTo s fd ⟨[u], []⟩ [("_law_script", u)]) ∧ ∀ base : Heap, K.In base → base.Ns mainGlobals mg → FnOk P w K mg base CX0 13 fa fd ["_law_script"] (spLaw K) := by
  have e := hfa.symm.trans (PySem.W.mg_of X G aLaw)
  cases e
  have FKp := fun_mk (st := sKp) lKp cKp kKp
  have FCe := fun_mk (st := sCe) lCe cCe kCe
  have FRo := fun_mk (st := sRo) lRo cRo kRo
  have FGc := fun_mk (st := sGc) lGc cGc kGc
  have FLo := fun_mk (st := sLo) lLo cLo kLo
  have FAd := fun_mk (st := sAd) lAd cAd kAd
  have FUn := fun_mk (st := sUn) lUn cUn kUn
  have FIi := fun_mk (st := sIi) lIi cIi kIi
  have FHo := fun_mk (st := sHo) lHo cHo kHo
  have FWh := fun_mk (st := sWh) lWh cWh kWh
  have FPa := fun_mk (st := sPa) lPa cPa kPa
  have FLm := fun_mk (st := sLm) lLm cLm kLm
  have FVa := fun_mk (st := sVa) lVa cVa kVa
  have FTr := fun_mk (st := sTr) lTr cTr kTr
  have FIt := fun_mk (st := sIt) lIt cIt kIt
  have FAm := fun_mk (st := sAm) lAm cAm kAm
  have FLaw := fun_mk (st := sLaw) lLaw cLaw kLaw
  have FNM := fun_mk (st := sNM) lNM cNM kNM
  have FEq := fun_mk (st := sEq) lEq cEq kEq
  have FLt := fun_mk (st := sLt) lLt cLt kLt
  have FLe := fun_mk (st := sLe) lLe cLe kLe
  have FGt := fun_mk (st := sGt) lGt cGt kGt
  have FGe := fun_mk (st := sGe) lGe cGe kGe
  have FNK := fun_mk (st := sNK) lNK cNK kNK
  have FKE := fun_mk (st := sKE) lKE cKE kKE
  have bKp := FKp.binds (ps := ["value"]) fun _ _ _ _ _ _ us hl => match us, hl with | [_], _ => rfl
  have bCe := FCe.binds (ps := ["_law_script", "_law_k"]) fun _ _ _ _ _ _ us hl => match us, hl with | [_, _], _ => rfl
  have bRo := FRo.binds (ps := ["_law_cell_here", "_law_sizes"]) fun _ _ _ _ _ _ us hl => match us, hl with | [_, _], _ => rfl
  have bGc := FGc.binds (ps := ["_law_a", "_law_b"]) fun _ _ _ _ _ _ us hl => match us, hl with | [_, _], _ => rfl
  have bLo := FLo.binds (ps := ["_law_top", "_law_bottom"]) fun _ _ _ _ _ _ us hl => match us, hl with | [_, _], _ => rfl
  have bAd := FAd.binds (ps := ["_law_a", "_law_b"]) fun _ _ _ _ _ _ us hl => match us, hl with | [_, _], _ => rfl
  have bUn := FUn.binds (ps := ["_law_a", "_law_b"]) fun _ _ _ _ _ _ us hl => match us, hl with | [_, _], _ => rfl
  have bIi := FIi.binds (ps := ["_law_actual"]) fun _ _ _ _ _ _ us hl => match us, hl with | [_], _ => rfl
  have bHo := FHo.binds (ps := ["_law_actual", "_law_top", "_law_bottom"]) fun _ _ _ _ _ _ us hl => match us, hl with | [_, _, _], _ => rfl
  have bWh := FWh.binds (ps := ["_law_cell_here", "_law_most"]) fun _ _ _ _ _ _ us hl => match us, hl with | [_, _], _ => rfl
  have bPa := FPa.binds (ps := ["_law_pair", "_law_plain"]) fun _ _ _ _ _ _ us hl => match us, hl with | [_, _], _ => rfl
  have bLm := FLm.binds (ps := ["_law_tone", "_law_times", "_law_plain", "_law_left"]) fun _ _ _ _ _ _ us hl => match us, hl with | [_, _, _, _], _ => rfl
  have bVa := FVa.binds (ps := ["_law_times"]) fun _ _ _ _ _ _ us hl => match us, hl with | [_], _ => rfl
  have bTr := FTr.binds (ps := ["_law_tone", "_law_times", "_law_plain", "_law_left"]) fun _ _ _ _ _ _ us hl => match us, hl with | [_, _, _, _], _ => rfl
  have bIt := FIt.binds (ps := ["value"]) fun _ _ _ _ _ _ us hl => match us, hl with | [_], _ => rfl
  have bAm := FAm.binds (ps := ["time"]) fun _ _ _ _ _ _ us hl => match us, hl with | [_], _ => rfl
  have bNM := FNM.binds (ps := ["self", "top", "bottom"]) fun _ _ _ _ _ _ us hl => match us, hl with | [_, _, _], _ => rfl
  have bNK := FNK.binds (ps := ["self", "tone", "begin", "end"]) fun _ _ _ _ _ _ us hl => match us, hl with | [_, _, _, _], _ => rfl
  have bEq := FEq.binds (ps := ["self", "other"]) fun _ _ _ _ _ _ us hl => match us, hl with | [_, _], _ => rfl
  have bLt := FLt.binds (ps := ["self", "other"]) fun _ _ _ _ _ _ us hl => match us, hl with | [_, _], _ => rfl
  have bLe := FLe.binds (ps := ["self", "other"]) fun _ _ _ _ _ _ us hl => match us, hl with | [_, _], _ => rfl
  have bGt := FGt.binds (ps := ["self", "other"]) fun _ _ _ _ _ _ us hl => match us, hl with | [_, _], _ => rfl
  have bGe := FGe.binds (ps := ["self", "other"]) fun _ _ _ _ _ _ us hl => match us, hl with | [_, _], _ => rfl
  have bKE := FKE.binds (ps := ["self", "other"]) fun _ _ _ _ _ _ us hl => match us, hl with | [_, _], _ => rfl
  have T : Txt K mg C := ⟨PySem.W.mg_none_of X G gLen, PySem.W.mg_none_of X G gAbs, PySem.W.mg_none_of X G gInt, PySem.W.mg_none_of X G gBool, PySem.W.mg_none_of X G gIsi, PySem.W.mg_none_of X G gRange, PySem.W.mg_of X G gGcd, PySem.W.mg_of X G aC, ⟨pgC, hdC, poC, saC⟩, nTop, nBot, clC, clG, clT, mroO, kit_self, kit_ct nIC, kit_tc icC tyC nf_int, PySem.W.mg_none_of X G gLst, PySem.W.mg_none_of X G gDct, kit_ct nLC, kit_ct nDC⟩
  have TN : TxtN K mg CN fNM := ⟨⟨⟨_, _, _, _, _, _, _, _, _, _, _, _, _, _, _, xN, rfl⟩, saN, exN, tyN, kcN⟩, nTN, nBN, aNM, tIN, PySem.W.mg_of X G aN⟩
  have TO : Opc K C := ⟨sfC, nIC, obC⟩
  have FI : FunD K "__init__" "Moment.__init__" (defArgs sIn) (defBody sIn) (defScope sIn) [V.int 1] [] fIn _ := ⟨⟨_, _, _, _, _, _, _, _, _, _, rfl, lIn, cIn, .inr ⟨by simp, TD, _, [Value.int 1 tkTD], nTD, rfl, lTD, rfl, .cons ⟨_, rfl⟩ .nil⟩, .inl rfl⟩, kIn⟩
  obtain ⟨ds1, vds1, bIn1⟩ := FI.binds1 (ps := psIn) 2 0 (by simp) rfl fun _ _ _ _ _ _ _ us its hu hi => match us, hu, its, hi with | [_, _], _, [_], _ => ⟨_, rfl, rfl⟩
  obtain ⟨ds0, vds0, bIn0⟩ := FI.binds1 (ps := psIn) 3 1 (by simp) rfl fun _ _ _ _ _ _ _ us its hu hi => match us, hu, its, hi with | [_, _, _], _, [_], _ => ⟨_, rfl, rfl⟩
  cases vds0
  refine ⟨PySem.W.fnOf "law" "law" (defArgs sLaw) (defBody sLaw) (defScope sLaw) .none kVLaw dcLaw pmLaw anLaw cdLaw ctLaw, fun s v => .of_eq rfl, fun base _ _ => ?_⟩
  have OKp : Ok P w K mg base CX0 1 "_kept" _ (spKept K) := ⟨_, _, ok_kept FKp T, PySem.W.mg_of X G aKp, kKp, bKp⟩
  have OI : OkI P w K mg base C CN := ⟨fIn, _, ds1, ok_init FI T TN FNM bNM OKp, ⟨mkC, aIn, iIn, kcC⟩, bIn0, vds1, bIn1⟩
  have OC : Ok P w K mg base CX0 1 "_law_cell" _ (spCell K) := ⟨_, _, ok_cell FCe T, PySem.W.mg_of X G aCe, kCe, bCe⟩
  have OW : Ok P w K mg base CX0 1 "_law_whole" _ spWhole := ⟨_, _, ok_whole FWh T, PySem.W.mg_of X G aWh, kWh, bWh⟩
  have OG : Ok P w K mg base CX0 1 "_law_gcd" _ spGcd := ⟨_, _, ok_gcd FGc T, PySem.W.mg_of X G aGc, kGc, bGc⟩
  have OJ : Ok P w K mg base CX0 1 "_law_is_int" _ spIsInt := ⟨_, _, ok_isint FIi T, PySem.W.mg_of X G aIi, kIi, bIi⟩
  have OH : Ok P w K mg base CX0 2 "_law_holds" _ (spHolds C) := ⟨_, _, ok_holds FHo T OJ OG, PySem.W.mg_of X G aHo, kHo, bHo⟩
  have OO : Ok P w K mg base CX0 1 "_law_row" _ (spRow K) := ⟨_, _, ok_row FRo T, PySem.W.mg_of X G aRo, kRo, bRo⟩
  have OT : Ok P w K mg base CX0 1 "is_time" _ (spIsTime C) := ⟨_, _, ok_istime FIt T, PySem.W.mg_of X G aIt, kIt, bIt⟩
  have OA : Ok P w K mg base CX0 6 "as_moment" _ (spAsM C) := ⟨_, _, ok_asm FAm T OI, PySem.W.mg_of X G aAm, kAm, bAm⟩
  have GE : FnOk P w K mg base CX0 1 _ _ _ (spEq2 C) := ok_eq FEq T icC tyC
  have R : Ord4 P w K mg base C fLt fLe fGt fGe _ _ _ _ := ⟨ok_lt FLt T OT OA, ok_le FLe T OT OA, ok_gt FGt T OT OA, ok_ge FGe T OT OA, aLt, aLe, aGt, aGe, iLt, iLe, iGt, iGe, bLt, bLe, bGt, bGe⟩
  have TK : TxtK K mg CM CK fNK := ⟨⟨⟨_, _, _, _, _, _, _, _, _, _, _, _, _, _, _, xK, rfl⟩, saK, exK, tyK, kcK⟩, nTK, nBK, nEK, aNK, tIK, PySem.W.mg_of X G aK, PySem.W.mg_of X G aM, ⟨pgM, hdM, poM, saM⟩, nM0, nM1, nM2, nM3, nM4⟩
  have TM : TxtM K CM := ⟨clM, mroM⟩
  have TX : XfC K CK := ⟨gaK, ggK, exK, hdK⟩
  have FM : FMk K fMk _ := ⟨⟨_, _, _, _, _, _, _, _, _, _, rfl, lMk, cMk, .inl ⟨rfl, rfl⟩, .inr ⟨DK, rfl, by
    intro q hq
    simp only [List.mem_cons, List.not_mem_nil, or_false] at hq
    rcases hq with rfl | rfl
    · exact ⟨_, nS, rfl⟩
    · exact ⟨_, nP, rfl⟩⟩⟩, kMk⟩
  have GM : FnOk P w K mg base (L2.CX P w) 9 _ _ psMk (spMark CM C CK) := ok_mark FM T TO TK FNK bNK OKp R OA
  have OL : Ok P w K mg base CX0 2 "_law_low" _ spLow := ⟨_, _, ok_low FLo T OG, PySem.W.mg_of X G aLo, kLo, bLo⟩
  have OD : Ok P w K mg base CX0 4 "_law_add" _ (spAddF K) := ⟨_, _, ok_addf FAd OL, PySem.W.mg_of X G aAd, kAd, bAd⟩
  have OU : Ok P w K mg base CX0 1 "_law_under" _ (spUnder K) := ⟨_, _, ok_under FUn, PySem.W.mg_of X G aUn, kUn, bUn⟩
  have OV : Ok P w K mg base CX0 2 "_law_valid" _ spValid := ⟨_, _, ok_valid FVa OU, PySem.W.mg_of X G aVa, kVa, bVa⟩
  have OP : Ok P w K mg base CX0 6 "_law_passed" _ (spPassed C) := ⟨_, _, ok_passed FPa T OI, PySem.W.mg_of X G aPa, kPa, bPa⟩
  have GLm : FnOk P w K mg base (L2.CX P w) 11 _ _ _ (spMarkL CM C CK) := ok_lmark FLm TK ⟨mkM, aMk, iMk, kcM⟩ GM FM OP
  have GKE : FnOk P w K mg base CX0 4 _ _ _ (spKEq2 CM C) := ok_keq FKE T TK TM aEq iEq GE bEq
  have OTr : Ok P w K mg base CX0 12 "_law_tried" _ (spTried CM C) := ⟨_, _, ok_tried FTr T TK TX (exm_own exK icK tyK ssK) aEq iEq GE bEq GLm (PySem.W.mg_of X G aLm) kLm bLm OP OV OJ OH, PySem.W.mg_of X G aTr, kTr, bTr⟩
  exact ok_law FLaw T ⟨sfM, nIM, obM⟩ neM aKE iKE GKE bKE OC OW OO OL OD OTr
theorem walk {l : PySem.W.OpenLaw} {q : Program} {loose : List Str} {XP : (Str → Option Value) → Heap → Prop} {YP : World → Heap → Prop} {d : DefRec} {K : Params → PySem.W.Frag} (hn : l.most = some 63) (hdf : d.params.defaults = [])
    (hY : ∀ (w : World) (h : Heap), YP w h → (K w.params).In h)
    (F : ∀ (w : World) (mg : Str → Option Value) (fa : Addr) (h : Heap), (K w.params).In h → h.Ns mainGlobals mg → mg d.name = some (.ref fa) →
      ∃ fd : FuncData, (∀ (s : Shared) (u : Value), BindsTo s fd ⟨[u], []⟩ [("_law_script", u)]) ∧ ∀ base : Heap, (K w.params).In base → base.Ns mainGlobals mg → FnOk l.prog w (K w.params) mg base CX0 13 fa fd ["_law_script"] (spLaw (K w.params))) :
    PySem.W.WalkO q loose XP YP l.row.toRowW d [] (fun f vs => PySem.call f vs) :=
  L2.walk_of (n := 63) (k := 13) (x := "_law_script") (CX := fun _ => CX0) (sp := fun w => spLaw (K w.params)) hn (by decide) hdf ⟨rfl, by decide, by decide⟩ hY F (fun _ _ a ns hl _ hS => ⟨a, ns, rfl, hS, hl, fun _ => rfl⟩) fun _ _ _ _ _ z => z
end Mo
open PySem PySem.W PyProof.Rows
set_option maxRecDepth 100000 in
set_option maxHeartbeats 0 in
theorem PySem.Challenge.cw_anytune_k08_marks_holds : PySem.Challenge.rw_anytune_k08_marks.Holds := by
  w_on; o_law; k_head; (case hw => w_witness2)
  k_fill
  refine Mo.walk (l := PySem.Challenge.rw_anytune_k08_marks) rfl rfl (fun w h Y => PySem.W.kIn_of Y) ?F
  case F =>
    intro w mg fa h KX G hmg
    refine' Mo.all_mk KX G hmg ?aC ?aN ?aK ?aM ?aKp ?lKp ?cKp ?kKp ?aCe ?lCe ?cCe ?kCe ?aRo ?lRo ?cRo ?kRo ?aGc ?lGc ?cGc ?kGc ?aLo ?lLo ?cLo ?kLo ?aAd ?lAd ?cAd ?kAd ?aUn ?lUn ?cUn ?kUn ?aIi ?lIi ?cIi ?kIi ?aHo ?lHo ?cHo ?kHo ?aWh ?lWh ?cWh ?kWh ?aPa ?lPa ?cPa ?kPa ?aLm ?lLm ?cLm ?kLm ?aVa ?lVa ?cVa ?kVa ?aTr ?lTr ?cTr ?kTr ?aIt ?lIt ?cIt ?kIt ?aAm ?lAm ?cAm ?kAm ?aLaw ?lLaw ?cLaw ?kLaw ?aNM ?lNM ?cNM ?kNM ?iNM ?aIn ?lIn ?cIn ?kIn ?iIn ?aEq ?lEq ?cEq ?kEq ?iEq ?aLt ?lLt ?cLt ?kLt ?iLt ?aLe ?lLe ?cLe ?kLe ?iLe ?aGt ?lGt ?cGt ?kGt ?iGt ?aGe ?lGe ?cGe ?kGe ?iGe ?aNK ?lNK ?cNK ?kNK ?iNK ?aMk ?lMk ?cMk ?kMk ?iMk ?aKE ?lKE ?cKE ?kKE ?iKE ?pgC ?hdC ?poC ?saC ?mkC ?kcC ?nTop ?nBot ?clC ?clG ?clT ?mroO ?icC ?tyC ?sfC ?nIC ?nLC ?nDC ?obC ?gLen ?gAbs ?gInt ?gBool ?gIsi ?gRange ?gLst ?gDct ?gGcd ?xN ?saN ?exN ?tyN ?kcN ?nTN ?nBN ?tIN ?lTD ?xK ?saK ?exK ?tyK ?kcK ?nTK ?nBK ?nEK ?tIK ?gaK ?ggK ?hdK ?icK ?ssK ?pgM ?hdM ?poM ?saM ?mkM ?kcM ?nM0 ?nM1 ?nM2 ?nM3 ?nM4 ?clM ?mroM ?sfM ?nIM ?obM ?neM ?nS ?nP
    (case aC => k_is)
    (case aN => k_is)
    (case aK => k_is)
    (case aM => k_is)
    (case aKp => k_is)
    (case lKp => k_is)
    (case cKp => k_is)
    (case kKp => k_is)
    (case aCe => k_is)
    (case lCe => k_is)
    (case cCe => k_is)
    (case kCe => k_is)
    (case aRo => k_is)
    (case lRo => k_is)
    (case cRo => k_is)
    (case kRo => k_is)
    (case aGc => k_is)
    (case lGc => k_is)
    (case cGc => k_is)
    (case kGc => k_is)
    (case aLo => k_is)
    (case lLo => k_is)
    (case cLo => k_is)
    (case kLo => k_is)
    (case aAd => k_is)
    (case lAd => k_is)
    (case cAd => k_is)
    (case kAd => k_is)
    (case aUn => k_is)
    (case lUn => k_is)
    (case cUn => k_is)
    (case kUn => k_is)
    (case aIi => k_is)
    (case lIi => k_is)
    (case cIi => k_is)
    (case kIi => k_is)
    (case aHo => k_is)
    (case lHo => k_is)
    (case cHo => k_is)
    (case kHo => k_is)
    (case aWh => k_is)
    (case lWh => k_is)
    (case cWh => k_is)
    (case kWh => k_is)
    (case aPa => k_is)
    (case lPa => k_is)
    (case cPa => k_is)
    (case kPa => k_is)
    (case aLm => k_is)
    (case lLm => k_is)
    (case cLm => k_is)
    (case kLm => k_is)
    (case aVa => k_is)
    (case lVa => k_is)
    (case cVa => k_is)
    (case kVa => k_is)
    (case aTr => k_is)
    (case lTr => k_is)
    (case cTr => k_is)
    (case kTr => k_is)
    (case aIt => k_is)
    (case lIt => k_is)
    (case cIt => k_is)
    (case kIt => k_is)
    (case aAm => k_is)
    (case lAm => k_is)
    (case cAm => k_is)
    (case kAm => k_is)
    (case aLaw => k_is)
    (case lLaw => k_is)
    (case cLaw => k_is)
    (case kLaw => k_is)
    (case aNM => k_is)
    (case lNM => k_is)
    (case cNM => k_is)
    (case kNM => k_is)
    (case iNM => k_is)
    (case aIn => k_is)
    (case lIn => k_is)
    (case cIn => k_is)
    (case kIn => k_is)
    (case iIn => k_is)
    (case aEq => k_is)
    (case lEq => k_is)
    (case cEq => k_is)
    (case kEq => k_is)
    (case iEq => k_is)
    (case aLt => k_is)
    (case lLt => k_is)
    (case cLt => k_is)
    (case kLt => k_is)
    (case iLt => k_is)
    (case aLe => k_is)
    (case lLe => k_is)
    (case cLe => k_is)
    (case kLe => k_is)
    (case iLe => k_is)
    (case aGt => k_is)
    (case lGt => k_is)
    (case cGt => k_is)
    (case kGt => k_is)
    (case iGt => k_is)
    (case aGe => k_is)
    (case lGe => k_is)
    (case cGe => k_is)
    (case kGe => k_is)
    (case iGe => k_is)
    (case aNK => k_is)
    (case lNK => k_is)
    (case cNK => k_is)
    (case kNK => k_is)
    (case iNK => k_is)
    (case aMk => k_is)
    (case lMk => k_is)
    (case cMk => k_is)
    (case kMk => k_is)
    (case iMk => k_is)
    (case aKE => k_is)
    (case lKE => k_is)
    (case cKE => k_is)
    (case kKE => k_is)
    (case iKE => k_is)
    (case pgC => k_is)
    (case hdC => k_is)
    (case poC => k_is)
    (case saC => k_is)
    (case mkC => k_is)
    (case kcC => k_is)
    (case nTop => k_is)
    (case nBot => k_is)
    (case clC => k_is)
    (case clG => k_is)
    (case clT => k_is)
    (case mroO => k_is)
    (case icC => k_is)
    (case tyC => k_is)
    (case sfC => k_is)
    (case nIC => k_is)
    (case nLC => k_is)
    (case nDC => k_is)
    (case obC => k_is)
    (case gLen => k_is)
    (case gAbs => k_is)
    (case gInt => k_is)
    (case gBool => k_is)
    (case gIsi => k_is)
    (case gRange => k_is)
    (case gLst => k_is)
    (case gDct => k_is)
    (case gGcd => k_is)
    (case xN => k_is)
    (case saN => k_is)
    (case exN => k_is)
    (case tyN => k_is)
    (case kcN => k_is)
    (case nTN => k_is)
    (case nBN => k_is)
    (case tIN => k_is)
    (case lTD => k_is)
    (case xK => k_is)
    (case saK => k_is)
    (case exK => k_is)
    (case tyK => k_is)
    (case kcK => k_is)
    (case nTK => k_is)
    (case nBK => k_is)
    (case nEK => k_is)
    (case tIK => k_is)
    (case gaK => k_is)
    (case ggK => k_is)
    (case hdK => k_is)
    (case icK => k_is)
    (case ssK => k_is)
    (case pgM => k_is)
    (case hdM => k_is)
    (case poM => k_is)
    (case saM => k_is)
    (case mkM => k_is)
    (case kcM => k_is)
    (case nM0 => k_is)
    (case nM1 => k_is)
    (case nM2 => k_is)
    (case nM3 => k_is)
    (case nM4 => k_is)
    (case clM => k_is)
    (case mroM => k_is)
    (case sfM => k_is)
    (case nIM => k_is)
    (case obM => k_is)
    (case neM => k_is)
    (case nS => k_is)
    (case nP => k_is)


