import PyProof.Rows.All
import Wide.All
import OpenK.AllK
import Wide.FinOn
import HandS.ForMost
import HandS.ForExc
import HandS.Evl
import HandS.Wide
import HandS.Gcd
import HandS.IsInst
import HandS.ExcInit
import HandS.ExcField
import HandS.CallSlots
import HandS.Defaults
import HandS.MakeKw
import HandS.OwnEq
import HandS.ExcBuiltin
import HandS.RaiseOp
import HandS.TryOnly
import PyProof.Rows.Range3
import HandS.ExcValue
import KE.KExcIs
import HandS.MakeKwOnly
import PySem.Challenge.RW_anytune_k01_errors
set_option Elab.async false
set_option linter.all false
set_option maxRecDepth 100000
set_option maxHeartbeats 2000000
namespace Mo
open PySem PySem.W PySem.Calls PyProof.Rows
section
variable {prog : Program} {w : World} {M : Model} {A : Around} {E : Value → Shared → Prop} {s : Shared} {K : Frag} {x C L f : Addr} {h₀ : Heap} {m : Str → Option Value} {ox : Obj} {od : Option Obj} {f₁ : Addr}

theorem intBin_no {nm : String} {g : Int → Int → Sem PySem.Fin} {refl : Bool} {i : Int} {t : Tok} {Q : PySem.Fin → Shared → Prop} (hx : s.heap.get? x = some ox) (hd : ox.data = .plain)
    (h : Q (.done (.ret .notImplemented)) s) : wpAny M A (Builtin.Int.intBinary nm g refl ⟨[.int i t, .ref x], []⟩) Q E s := by
  obtain ⟨hp, g', d, tk, os⟩ := s
  unfold Builtin.Int.intBinary
  wp_walk using wpAny_loadPart' hx
  rw [hd]
  wp_walk
  exact h

/-- an int's built-in that hands an own instance back -/
def Declines (B : Builtin) : Prop := ∀ (M : Model) (A : Around) (E : Value → Shared → Prop) (s : Shared) (i : Int) (t : Tok) (x : Addr) (ox : Obj) (Q : PySem.Fin → Shared → Prop), s.heap.get? x = some ox → ox.data = .plain → Q (.done (.ret .notImplemented)) s → wpAny M A (B ⟨[.int i t, .ref x], []⟩) Q E s
theorem dec_bin {nm : String} {g : Int → Int → Sem PySem.Fin} {refl : Bool} : Declines (Builtin.Int.intBinary nm g refl) := fun _ _ _ _ _ _ _ _ _ hx hd h => intBin_no hx hd h
theorem call_int_no {id : String} {B : Builtin} {name : Str} {i : Int} {t : Tok} {Q : Value → Shared → Prop} (slot : Slot "int" name id) (entry : entryFor table id = some B) (args : argsOk id ⟨[.int i t, .ref x], []⟩)
    (hB : Declines B) (hx : s.heap.get? x = some ox) (hd : ox.data = .plain) (h : Q .notImplemented s) :
    wpAny (model prog w) A (call (.builtin id) [.int i t, .ref x]) Q E s := by
  exact wpAny_call (codeAny_call_builtin slot.plain entry (slot.check _ _ _ _ _ _ _ _ (typeIs_int s i t) args (hB _ _ _ _ _ _ _ _ _ hx hd h)))

/-- k op a, a an own instance whose class has the reflected operator -/
theorem binR_K {op : Operator} {i : Int} {t : Tok} {id : String} {B : Builtin} {Q : Value → Shared → Prop} (F : Fr h₀ L s.heap m) (X₀ : K.In h₀) (I : InstAt s.heap x ox C od) (hpl : ox.data = .plain) (hc : selfFirst K C = true)
    (hs : findIn K (.ref C) (PySem.dunder op.info.2) = some (some (.ref f₁))) (hs1 : isFn K (.ref f₁) = true)
    (hr : findIn K (.ref C) (dunderR op.info.2) = some (some (.ref f))) (hf : isFn K (.ref f) = true) (hsub : subIn K (.ref C) (.type "int") = some false)
    (slot : Slot "int" (PySem.dunder op.info.2) id) (fills : fillsNumberSlot (.type "int") op.info.2 = pure true) (entry : entryFor table id = some B) (args : argsOk id ⟨[.int i t, .ref x], []⟩)
    (hB : Declines B)
    (h : wpAny (model prog w) A (call (.ref f) [.ref x, .int i t]) (W.CmpBack Q) E s) : wpAny (model prog w) A (binaryOp op (.int i t) (.ref x)) Q E s := by
  have X := X₀.keeps F.keep
  obtain ⟨cd, rest, hcd, hm⟩ := ksp_first hc
  rcases hi : op.info with ⟨sym, nm'⟩
  rw [hi] at hs hr slot fills
  dsimp only at hs hr slot fills
  have two := ksp_try X I hr hf h
  have one : wpAny (model prog w) A (tryMethod (.int i t) (PySem.dunder nm') (.ref x)) (fun r s' => r = none ∧ s' = s) E s :=
    wpAny_tryMethod_declines (typeIs_int s i t) slot (call_int_no slot entry args hB I.1 hpl ⟨rfl, rfl, rfl⟩)
  obtain ⟨hh, g', d, tk, os⟩ := s
  have L1 : Looks (model prog w) hh (typeOf (.int i t)) (.type "int") := Looks.of_pure rfl
  have L2 : Looks (model prog w) hh (typeOf (.ref x)) (.ref C) := I.type
  have L3 : Looks (model prog w) hh (fillsNumberSlot (.type "int") nm') true := Looks.of_pure fills
  have L4 : Looks (model prog w) hh (fillsNumberSlot (.ref C) nm') true := fills_K X hcd hm hs
  have L5 : Looks (model prog w) hh (isSubtype (.ref C) (.type "int")) false := looks_subIn X hsub
  have L6 : Looks (model prog w) hh (numberSlotInPython (.type "int") nm') false := Looks.of_pure rfl
  have hne : (Value.type "int" == Value.ref C) = false := Bool.eq_false_iff.mpr fun q => by cases beq_iff_eq.mp q
  simp only [binaryOp, hi]
  refine wpAny_holding (wpAny_bind ?_)
  unfold binaryOp1
  refine wpAny_bind (L1.at (wpAny_bind (L2.at (wpAny_bind (L3.at ?_)))))
  simp only [hne, Bool.false_eq_true, if_false]
  ksp_lk
  refine wpAny_mono one (fun r s' hr' => ?_) fun _ _ e => e
  obtain ⟨rfl, rfl⟩ := hr'
  ksp_lk
  refine wpAny_mono two (fun r s' hr' => ?_) fun _ _ e => e
  obtain ⟨v, rfl, hq⟩ := hr'
  ksp_lk
  exact hq

/-- int.__lt__ and its like on an own instance -/
theorem tryCmp_int_no {id : String} {B : Builtin} {name : Str} {i : Int} {t : Tok} (slot : Slot "int" name id) (entry : entryFor table id = some B) (args : argsOk id ⟨[.int i t, .ref x], []⟩)
    (hB : Declines B) (hx : s.heap.get? x = some ox) (hd : ox.data = .plain) :
    wpAny (model prog w) A (tryCompare (.int i t) name (.ref x)) (fun r s' => r = none ∧ s' = s) E s := by
  unfold tryCompare
  refine wpAny_bind (wpAny_callSpecialIfBound?_slot (typeIs_int s i t) slot (call_int_no slot entry args hB hx hd ?_))
  exact wpAny_pure ⟨rfl, rfl⟩
theorem tryCmp_K {name : Str} {b : Value} {Q : Value → Shared → Prop} (X : K.In s.heap) (I : InstAt s.heap x ox C od) (hs : findIn K (.ref C) name = some (some (.ref f))) (hf : isFn K (.ref f) = true)
    (h : wpAny M A (call (.ref f) [.ref x, b]) (W.CmpBack Q) E s) : wpAny M A (tryCompare (.ref x) name b) (fun r s' => ∃ v, r = some v ∧ Q v s') E s := by
  unfold tryCompare
  refine wpAny_bind (ifBound_K X I hs hf (wpAny_mono h (fun v s' hv => ?_) fun _ _ e => e))
  cases v <;> first | exact hv.elim | exact wpAny_pure ⟨_, rfl, hv⟩
/-- x != b by x.__eq__(b): object.__ne__ -/
theorem tryNe_K {b : Value} {Q : Value → Shared → Prop} (hu : A.units + 1 < cLine) (X : K.In s.heap) (I : InstAt s.heap x ox C od) (hn : findIn K (.ref C) "__ne__" = some (some (.builtin "object.__ne__"))) (ho : subIn K (.ref C) (.type "object") = some true)
    (hs : findIn K (.ref C) "__eq__" = some (some (.ref f))) (hf : isFn K (.ref f) = true)
    (h : wpAny (model prog w) A.in1 (call (.ref f) [.ref x, b]) (fun v s' => ∃ k, v = .bool k ∧ Q (.bool (!k)) s') E s) :
    wpAny (model prog w) A (tryCompare (.ref x) "__ne__" b) (fun r s' => ∃ v, r = some v ∧ Q v s') E s := by
  have FB := F.cmp_object
  have fin : wpAny (model prog w) A (call (.builtin "object.__ne__") [.ref x, b]) (fun v s' => ∃ k, v = .bool k ∧ Q v s') E s := by
    obtain ⟨hp, g', d, tk, os⟩ := s
    have sub : Looks (model prog w) hp (isInstance (.ref x) (.type "object")) true := I.type.andThen (looks_subIn X ho)
    refine wpAny_call (codeAny_call_builtin FB.ne.plain F.cmpEntry_ne (@W.check_slot (model prog w) _ _ ⟨hp, g', d, tk, os⟩ "object.__ne__" "object" "__ne__" (.ref x) [b] [] _ F.cmpKind_ne F.cmpSplit_ne sub (F.cmpArgs_ne _ _) ?_))
    unfold Builtin.«object.__ne__»
    repeat (first
      | with_reducible refine wpAny_cRoomFor hu ?_
      | (refine wpAny_bind (m := callSpecialIfBound? (.ref x) (Str.ofString "__eq__") [b])
          (ifBound_K X I hs hf (wpAny_mono h (fun r s' hr => by
            obtain ⟨k, rfl, hq⟩ := hr
            repeat (first | exact ⟨_, rfl, hq⟩ | exact wpAny_pure ⟨_, rfl, hq⟩ | (refine wpAny_bind (m := truthy (.bool _)) (wpAny_truthy_bool ?_)) | wp_step)) fun _ _ e => e)))
      | wp_step)
  unfold tryCompare
  refine wpAny_bind ?_
  simp only [callSpecialIfBound?, bindSpecialIfBound?]
  refine wpAny_holding (wpAny_bind (wpAny_bind (wpAny_bind (I.type.here ((looks_findIn X hn).here ?_)))))
  simp only [FB.ne.bind]
  refine wpAny_bind (wpAny_askSetting (wpAny_ite ?_))
  have fin2 : wpAny (model prog w) A (call (.builtin "object.__ne__") ([.ref x] ++ [b]) >>= fun v => pure (some v)) (fun r s' => wpAny (model prog w) A (match r with | some .notImplemented | none => pure none | some v => pure (some v)) (fun r s' => ∃ v, r = some v ∧ Q v s') E s') E s :=
    wpAny_bind (wpAny_mono fin (fun v s' ⟨k, e, h'⟩ => by subst e; exact wpAny_pure (wpAny_pure ⟨_, rfl, h'⟩)) fun _ _ h' => h')
  split
  · exact wpAny_bind (wpAny_pure (wpAny_pure fin2))
  · exact wpAny_tryCatch (wpAny_bind (wpAny_pure (wpAny_pure fin2)))

/-- the rest of a comparison, x the own instance on the left -/
theorem cmpL_K {op : CmpOp} {b tb : Value} {Q : Value → Shared → Prop} (hu : A.units < cLine) (X : K.In s.heap) (I : InstAt s.heap x ox C od) (hb : Looks (model prog w) s.heap (typeOf b) tb) (hn : notFirst K C tb = true)
    (one : wpAny (model prog w) A (tryCompare (.ref x) (cmpInfo op).2.1 b) (fun r s' => ∃ v, r = some v ∧ Q v s') E s) : wpAny (model prog w) A (richCompare op (.ref x) b) Q E s := by
  unfold richCompare
  simp only [oneThing_ref]
  refine wpAny_holding (wpAny_bind (wpAny_cRoomFor hu ?_))
  refine wpAny_bind (I.type.here (wpAny_bind (hb.here ?_)))
  split
  · rename_i q
    have e : subIn K tb (.ref C) = some false := by
      rcases Bool.or_eq_true_iff.mp hn with e | e
      · rw [beq_iff_eq.mp e] at q; simp at q
      · exact beq_iff_eq.mp e
    refine wpAny_bind ((looks_subIn X e).here ?_)
    simp only [Bool.false_eq_true, if_false]
    refine wpAny_bind (wpAny_mono one (fun r s' z => ?_) fun _ _ e => e)
    obtain ⟨v, rfl, hq⟩ := z
    exact wpAny_pure hq
  · refine wpAny_bind (wpAny_pure ?_)
    simp only [Bool.false_eq_true, if_false]
    refine wpAny_bind (wpAny_mono one (fun r s' z => ?_) fun _ _ e => e)
    obtain ⟨v, rfl, hq⟩ := z
    exact wpAny_pure hq
/-- an int on the left -/
theorem cmpR_K {op : CmpOp} {i : Int} {t : Tok} {id : String} {B : Builtin} {Q : Value → Shared → Prop} (hu : A.units < cLine) (X : K.In s.heap) (I : InstAt s.heap x ox C od) (hpl : ox.data = .plain) (hsub : subIn K (.ref C) (.type "int") = some false)
    (slot : Slot "int" (cmpInfo op).2.1 id) (entry : entryFor table id = some B) (args : argsOk id ⟨[.int i t, .ref x], []⟩)
    (hB : Declines B)
    (two : wpAny (model prog w) A (tryCompare (.ref x) (cmpInfo op).2.2 (.int i t)) (fun r s' => ∃ v, r = some v ∧ Q v s') E s) : wpAny (model prog w) A (richCompare op (.int i t) (.ref x)) Q E s := by
  have one := tryCmp_int_no (prog := prog) (w := w) (A := A) (E := E) slot entry args hB I.1 hpl
  have o1 : oneThing? op (.int i t) (.ref x) = none := (typeIs_int s i t).oneThing_none op _
  unfold richCompare
  simp only [o1]
  refine wpAny_holding (wpAny_bind (wpAny_cRoomFor hu ?_))
  refine wpAny_bind (wpAny_typeOf (typeIs_int s i t) (wpAny_bind (I.type.here ?_)))
  have hne : (Value.type "int" != Value.ref C) = true := by
    rw [bne_iff_ne]
    intro q
    cases q
  rw [if_pos hne]
  refine wpAny_bind ((looks_subIn X hsub).here ?_)
  simp only [Bool.false_eq_true, if_false]
  refine wpAny_bind (wpAny_mono one (fun r s' z => ?_) fun _ _ e => e)
  obtain ⟨rfl, rfl⟩ := z
  dsimp only
  rw [if_pos (show (!false) = true from rfl)]
  refine wpAny_bind (wpAny_mono two (fun r s' z => ?_) fun _ _ e => e)
  obtain ⟨v, rfl, hq⟩ := z
  exact wpAny_pure hq
end
end Mo

namespace Mo
open PySem L2
/-- what the written part says of a class with operators of its own -/
structure Opc (K : PySem.W.Frag) (C : Addr) : Prop where
  sf : PySem.W.selfFirst K C = true
  nInt : PySem.W.subIn K (.ref C) (.type "int") = some false
  obj : PySem.W.subIn K (.ref C) (.type "object") = some true
theorem tyNot {K : PySem.W.Frag} {C : Addr} {T : String} (h : (PySem.fastBuiltinMro T).any (fun l => l.all fun v => match v with | .type _ => true | _ => false) = true) : PySem.W.subIn K (.type T) (.ref C) = some false := by
  show (PySem.fastBuiltinMro T).map (·.contains (.ref C)) = some false
  cases e : PySem.fastBuiltinMro T with
  | none => rw [e] at h; cases h
  | some l =>
    rw [e] at h
    show some (l.contains (.ref C)) = some false
    have h' : (l.all fun v => match v with | .type _ => true | _ => false) = true := h
    congr 1
    rw [List.contains_eq_any_beq]
    rw [List.any_eq_false]
    intro v hv q
    have z := List.all_eq_true.mp h' v hv
    have z2 := beq_iff_eq.mp q
    subst z2
    cases z
theorem notFirstT {K : PySem.W.Frag} {C : Addr} {T : String} (h : PySem.W.subIn K (.type T) (.ref C) = some false) : PySem.W.notFirst K C (.type T) = true := by
  unfold PySem.W.notFirst
  rw [h]
  simp
theorem notFirstC {K : PySem.W.Frag} {C : Addr} : PySem.W.notFirst K C (.ref C) = true := by
  unfold PySem.W.notFirst
  simp
theorem nf_int {K : PySem.W.Frag} {C : Addr} : PySem.W.subIn K (.type "int") (.ref C) = some false := tyNot (by decide +kernel)
theorem nf_str {K : PySem.W.Frag} {C : Addr} : PySem.W.subIn K (.type "str") (.ref C) = some false := tyNot (by decide +kernel)
theorem nf_none {K : PySem.W.Frag} {C : Addr} : PySem.W.subIn K (.type "NoneType") (.ref C) = some false := tyNot (by decide +kernel)
theorem nf_list {K : PySem.W.Frag} {C : Addr} : PySem.W.subIn K (.type "list") (.ref C) = some false := tyNot (by decide +kernel)
theorem nf_tuple {K : PySem.W.Frag} {C : Addr} : PySem.W.subIn K (.type "tuple") (.ref C) = some false := tyNot (by decide +kernel)

section
variable {X : Cx} {CX : CXT} {n k : Nat} {f f₁ C : Addr} {fd : FuncData} {ps : List Str} {sp : Sp} {E : XK}
theorem cmpBack_of {pins : List (Addr × Obj)} {σ : St} {Q : VK} {v : Value} {s' : Shared} (h : EP X pins σ Q v s') : PySem.W.CmpBack (EP X pins σ Q) v s' := by
  obtain ⟨x, H', I, r, q⟩ := id h
  cases v <;> first | exact h | skip
  cases x <;> first | (cases r; done) | (obtain ⟨_, r⟩ := r; cases r; done) | (exact absurd r (by intro z; cases z))
theorem run_op (F : FnOk X.prog X.w X.K X.mg X.base CX n f fd ps sp) (hr : Room n X.A) (hb : Binds X.K fd ps []) (hx : Passes CX X E) {pins : List (Addr × Obj)} {s : Shared} {σ : St} {H : Hp} {xs : List V} {us : List Value} {Q : VK}
    (I : Inv X pins σ H s) (r : Vals xs us) (h : sp xs H Q E) : wpAny (model X.prog X.w) X.A (call (.ref f) us) (PySem.W.CmpBack (EP X pins σ Q)) X.xe s :=
  wpAny_mono (run_fn (dvs := []) (ds := []) F hr hb .nil hx I r (by rw [List.append_nil]; exact h)) (fun v s' z => cmpBack_of z) fun _ _ e => e
theorem v2rr (a b : Addr) : Vals [V.ref a, V.ref b] [Value.ref a, Value.ref b] := .cons rfl (.cons rfl .nil)
theorem v2ri (a : Addr) (i : Int) (t : Tok) : Vals [V.ref a, V.int i] [Value.ref a, Value.int i t] := .cons rfl (.cons ⟨_, rfl⟩ .nil)
theorem v2ry (a : Addr) {y : V} {u : Value} (r : RelV y u) : Vals [V.ref a, y] [Value.ref a, u] := .cons rfl (.cons r .nil)
/-- a two-place method of the class -/
structure Op2 (K : PySem.W.Frag) (C : Addr) (nm : String) (f : Addr) : Prop where
  at_ : PySem.W.findIn K (.ref C) (PySem.dunder nm) = some (some (.ref f))
  fn : PySem.W.isFn K (.ref f) = true
  rr : ∃ g : Addr, PySem.W.findIn K (.ref C) (PySem.dunderR nm) = some none ∨ PySem.W.findIn K (.ref C) (PySem.dunderR nm) = some (some (.ref g))
structure OpR2 (K : PySem.W.Frag) (C : Addr) (nm : String) (f : Addr) : Prop where
  at_ : PySem.W.findIn K (.ref C) (PySem.dunderR nm) = some (some (.ref f))
  fn : PySem.W.isFn K (.ref f) = true
  ll : ∃ g : Addr, PySem.W.findIn K (.ref C) (PySem.dunder nm) = some (some (.ref g)) ∧ PySem.W.isFn K (.ref g) = true
def IsC (C : Addr) (x : V) (H : Hp) : Prop := ∃ a dx fs, x = .ref a ∧ H a = some (.ins C dx fs)
def rOwn (C : Addr) (sp : Sp) (E : XK) : R2 := fun x y H Q => IsC C x H ∧ (IsC C y H ∨ ∃ i, y = .int i) ∧ sp [x, y] H Q E
def rOwnR (C : Addr) (sp : Sp) (E : XK) : R2 := fun x y H Q => (∃ i, x = .int i) ∧ IsC C y H ∧ sp [y, x] H Q E
/-- int's own facts of an operator -/
structure IntOp (op : Operator) : Prop where
  fo : ∃ fo ro, (∀ K : PySem.W.Frag, PySem.W.findIn K (.type "int") (PySem.dunder op.info.2) = some fo) ∧ (∀ K : PySem.W.Frag, PySem.W.findIn K (.type "int") (PySem.dunderR op.info.2) = some ro)
theorem op_own {op : Operator} (T : Opc X.K C) (IO : IntOp op) (O : Op2 X.K C op.info.2 f) (F : FnOk X.prog X.w X.K X.mg X.base CX n f fd ps sp) (hr : Room n X.A) (hb : Binds X.K fd ps []) (hx : Passes CX X E) : OpR X (binaryOp op) (rOwn C sp E) := by
  intro pins s σ H x y v u Q I rx ry h
  obtain ⟨⟨a, dx, fs, rfl, ha⟩, hy, q⟩ := h
  cases rx
  obtain ⟨mA, J, _⟩ := ins_get I.hok ha
  obtain ⟨od, J, _⟩ := J.look
  obtain ⟨m, hF⟩ := I.fr
  rcases hy with ⟨b, dy, gs, rfl, hb'⟩ | ⟨i, rfl⟩
  · cases ry
    obtain ⟨mB, J', _⟩ := ins_get I.hok hb'
    obtain ⟨od', J', _⟩ := J'.look
    exact PySem.W.binop_K hF I.ok.mod.kin J J'.type T.sf O.at_ O.fn (run_op F hr hb hx I (v2rr _ _) q)
  · obtain ⟨t, rfl⟩ := ry
    obtain ⟨fo, ro, e1, e2⟩ := IO.fo
    obtain ⟨g, e3⟩ := O.rr
    obtain ⟨rc, e4, e5⟩ : ∃ rc, PySem.W.findIn X.K (.ref C) (PySem.dunderR op.info.2) = some rc ∧ (rc = none ∨ ∃ g : Addr, rc = some (.ref g)) := by
      rcases e3 with e3 | e3
      · exact ⟨_, e3, .inl rfl⟩
      · exact ⟨_, e3, .inr ⟨g, rfl⟩⟩
    exact PySem.W.ksp_binT (T := "int") hF I.ok.mod.kin J rfl T.sf O.at_ O.fn e4 e5 (e1 _) (e2 _) nf_int (run_op F hr hb hx I (v2ri _ _ _) q)
/-- int op own -/
structure IntOpR (op : Operator) : Prop where
  sl : ∃ id B, PySem.Slot "int" (PySem.dunder op.info.2) id ∧ entryFor table id = some B ∧ (∀ i t x, argsOk id ⟨[.int i t, .ref x], []⟩) ∧ Declines B
  fills : fillsNumberSlot (.type "int") op.info.2 = pure true
theorem op_ownR {op : Operator} (T : Opc X.K C) (IO : IntOpR op) (O : OpR2 X.K C op.info.2 f) (F : FnOk X.prog X.w X.K X.mg X.base CX n f fd ps sp) (hr : Room n X.A) (hb : Binds X.K fd ps []) (hx : Passes CX X E) : OpR X (binaryOp op) (rOwnR C sp E) := by
  intro pins s σ H x y v u Q I rx ry h
  obtain ⟨⟨i, rfl⟩, ⟨a, dx, fs, rfl, ha⟩, q⟩ := h
  cases ry
  obtain ⟨t, rfl⟩ := rx
  obtain ⟨mA, J, _⟩ := ins_get I.hok ha
  obtain ⟨od, J, _⟩ := J.look
  obtain ⟨m, hF⟩ := I.fr
  obtain ⟨g, g1, g2⟩ := O.ll
  obtain ⟨id, B, s1, s2, s3, s4⟩ := IO.sl
  exact binR_K hF I.ok.mod.kin J rfl T.sf g1 g2 O.at_ O.fn T.nInt s1 IO.fills s2 (s3 _ _ _) s4 (run_op F hr hb hx I (v2ri _ _ _) q)

/-! ### comparisons -/
/-- the types of what an own instance is compared with -/
inductive Par (C : Addr) (H : Hp) : V → Prop where
  | int (i : Int) : Par C H (.int i)
  | str (z : Str) : Par C H (.str z)
  | non : Par C H .non
  | lst {a : Addr} {xs : List V} (e : H a = some (.lst xs)) : Par C H (.ref a)
  | tup {a : Addr} {xs : List V} (e : H a = some (.tup xs)) : Par C H (.ref a)
  | ins {a dx : Addr} {fs : List (Str × V)} (e : H a = some (.ins C dx fs)) : Par C H (.ref a)
theorem Par.look {H : Hp} {y : V} {u : Value} {pins : List (Addr × Obj)} {s : Shared} {σ : St} (I : Inv X pins σ H s) (p : Par C H y) (ry : RelV y u) : ∃ tb, PySem.W.Looks (model X.prog X.w) s.heap (typeOf u) tb ∧ PySem.W.notFirst X.K C tb = true := by
  cases p with
  | int i => obtain ⟨t, rfl⟩ := ry; exact ⟨_, .of_pure rfl, notFirstT nf_int⟩
  | str z => obtain ⟨t, rfl⟩ := ry; exact ⟨_, .of_pure rfl, notFirstT nf_str⟩
  | non => cases ry; exact ⟨_, .of_pure rfl, notFirstT nf_none⟩
  | @lst a xs e =>
    cases ry
    obtain ⟨_, its, n, _, e⟩ := (show ObjOk X.prog X.w H s.heap a (.lst xs) from I.hok a _ e)
    exact ⟨_, fun A Q E s k q => wpAny_typeOf_ref (k _ _ e) q, notFirstT nf_list⟩
  | @tup a xs e =>
    cases ry
    obtain ⟨_, its, _, o, e, hc, _⟩ := (show ObjOk X.prog X.w H s.heap a (.tup xs) from I.hok a _ e)
    exact ⟨.type "tuple", fun A Q E s k q => wpAny_typeOf_ref (k _ _ e) (by rw [hc]; exact q), notFirstT nf_tuple⟩
  | ins e =>
    cases ry
    obtain ⟨mB, J', _⟩ := ins_get I.hok e
    obtain ⟨od', J', _⟩ := J'.look
    exact ⟨_, J'.type, notFirstC⟩
/-- a op b by the class's own method -/
def rCmp (C : Addr) (sp : Sp) (E : XK) : R2 := fun x y H Q => IsC C x H ∧ Par C H y ∧ sp [x, y] H Q E
theorem op_cmp {op : CmpOp} (hop : ∀ v u : Value, compareOp op v u = richCompare op v u) (hs : PySem.W.findIn X.K (.ref C) (cmpInfo op).2.1 = some (some (.ref f))) (hf : PySem.W.isFn X.K (.ref f) = true)
    (F : FnOk X.prog X.w X.K X.mg X.base CX n f fd ps sp) (hr : Room n X.A) (hb : Binds X.K fd ps []) (hx : Passes CX X E) : OpR X (compareOp op) (rCmp C sp E) := by
  intro pins s σ H x y v u Q I rx ry h
  obtain ⟨⟨a, dx, fs, rfl, ha⟩, p, q⟩ := h
  obtain ⟨tb, lb, nf⟩ := p.look I ry
  cases rx
  obtain ⟨mA, J, _⟩ := ins_get I.hok ha
  obtain ⟨od, J, _⟩ := J.look
  rw [hop]
  exact cmpL_K hr.units0 I.kIn J lb nf (tryCmp_K I.kIn J hs hf (run_op F hr hb hx I (v2ry _ ry) q))
/-- k op a, by a's reflected method -/
def rCmpR (C : Addr) (sp : Sp) (E : XK) : R2 := fun x y H Q => (∃ i, x = .int i) ∧ IsC C y H ∧ sp [y, x] H Q E
structure IntCmp (op : CmpOp) : Prop where
  eq : ∀ v u : Value, compareOp op v u = richCompare op v u
  sl : ∃ id B, PySem.Slot "int" (cmpInfo op).2.1 id ∧ entryFor table id = some B ∧ (∀ i t x, argsOk id ⟨[.int i t, .ref x], []⟩) ∧ Declines B
theorem op_cmpR {op : CmpOp} (T : Opc X.K C) (IC : IntCmp op) (hs : PySem.W.findIn X.K (.ref C) (cmpInfo op).2.2 = some (some (.ref f))) (hf : PySem.W.isFn X.K (.ref f) = true)
    (F : FnOk X.prog X.w X.K X.mg X.base CX n f fd ps sp) (hr : Room n X.A) (hb : Binds X.K fd ps []) (hx : Passes CX X E) : OpR X (compareOp op) (rCmpR C sp E) := by
  intro pins s σ H x y v u Q I rx ry h
  obtain ⟨⟨i, rfl⟩, ⟨a, dx, fs, rfl, ha⟩, q⟩ := h
  cases ry
  obtain ⟨t, rfl⟩ := rx
  obtain ⟨mA, J, _⟩ := ins_get I.hok ha
  obtain ⟨od, J, _⟩ := J.look
  obtain ⟨id, B, s1, s2, s3, s4⟩ := IC.sl
  rw [IC.eq]
  exact cmpR_K hr.units0 I.kIn J rfl T.nInt s1 s2 (s3 _ _ _) s4 (tryCmp_K I.kIn J hs hf (run_op F hr hb hx I (v2ri _ _ _) q))
/-- the own == run a level deeper -/
theorem run_in1 (F : FnOk X.prog X.w X.K X.mg X.base CX n f fd ps sp) (hr : Room (n + 1) X.A) (hb : Binds X.K fd ps []) (hx : Passes CX X E) {pins : List (Addr × Obj)} {s : Shared} {σ : St} {H : Hp} {xs : List V} {us : List Value} {Q : VK}
    (I : Inv X pins σ H s) (r : Vals xs us) (h : sp xs H Q E) : wpAny (model X.prog X.w) X.A.in1 (call (.ref f) us) (EP X pins σ Q) X.xe s := by
  have e0 : Env0 X.prog X.w X.K X.mg X.base X.A.in1 X.stack s H := I.env0.in1
  have hl : us.length = ps.length := by rw [← r.length]; exact F.len _ _ _ _ h
  refine wpAny_call (codeAny_mono (F.run X.A.in1 X.stack s H ⟨us, []⟩ us xs _ E hr.in1 e0 (by
    have := hb s us I.kIn (by simpa using hl)
    simpa using this) r h) fun r s' hq => ?_)
  cases r with
  | error e => exact hx pins σ H s e s' I hq
  | ok fl =>
    cases fl with
    | ret w => exact I.after hq
    | next => exact False.elim hq
    | brk => exact False.elim hq
    | cont => exact False.elim hq
def rNeO (C : Addr) (sp : Sp) (E : XK) : R2 := fun x y H Q => IsC C x H ∧ Par C H y ∧ sp [x, y] H (fun v H' => ∃ k, v = .bl k ∧ Q (.bl (!k)) H') E
theorem ne_back {pins : List (Addr × Obj)} {σ : St} {Q : VK} {v : Value} {s' : Shared} (h : EP X pins σ (fun v H' => ∃ k, v = .bl k ∧ Q (.bl (!k)) H') v s') : ∃ k, v = .bool k ∧ EP X pins σ Q (.bool (!k)) s' := by
  obtain ⟨x, H', I, r, k, rfl, q⟩ := h
  cases r
  exact ⟨k, rfl, .bl (!k), H', I, rfl, q⟩
theorem op_neO (T : Opc X.K C) (hn : PySem.W.findIn X.K (.ref C) "__ne__" = some (some (.builtin "object.__ne__"))) (hs : PySem.W.findIn X.K (.ref C) "__eq__" = some (some (.ref f))) (hf : PySem.W.isFn X.K (.ref f) = true)
    (F : FnOk X.prog X.w X.K X.mg X.base CX n f fd ps sp) (hr : Room (n + 1) X.A) (hb : Binds X.K fd ps []) (hx : Passes CX X E) : OpR X (compareOp .NotEq) (rNeO C sp E) := by
  intro pins s σ H x y v u Q I rx ry h
  obtain ⟨⟨a, dx, fs, rfl, ha⟩, p, q⟩ := h
  obtain ⟨tb, lb, nf⟩ := p.look I ry
  cases rx
  obtain ⟨mA, J, _⟩ := ins_get I.hok ha
  obtain ⟨od, J, _⟩ := J.look
  show wpAny _ _ (richCompare .NotEq (.ref a) u) _ _ _
  exact cmpL_K hr.units0 I.kIn J lb nf (tryNe_K (hu_of hr) I.kIn J hn T.obj hs hf (wpAny_mono (run_in1 F hr hb hx I (v2ry _ ry) q) (fun v s' z => ne_back z) fun _ _ e => e))
def rNeOR (C : Addr) (sp : Sp) (E : XK) : R2 := fun x y H Q => (∃ i, x = .int i) ∧ IsC C y H ∧ sp [y, x] H (fun v H' => ∃ k, v = .bl k ∧ Q (.bl (!k)) H') E
theorem op_neOR (T : Opc X.K C) (IC : IntCmp .NotEq) (hn : PySem.W.findIn X.K (.ref C) "__ne__" = some (some (.builtin "object.__ne__"))) (hs : PySem.W.findIn X.K (.ref C) "__eq__" = some (some (.ref f))) (hf : PySem.W.isFn X.K (.ref f) = true)
    (F : FnOk X.prog X.w X.K X.mg X.base CX n f fd ps sp) (hr : Room (n + 1) X.A) (hb : Binds X.K fd ps []) (hx : Passes CX X E) : OpR X (compareOp .NotEq) (rNeOR C sp E) := by
  intro pins s σ H x y v u Q I rx ry h
  obtain ⟨⟨i, rfl⟩, ⟨a, dx, fs, rfl, ha⟩, q⟩ := h
  cases ry
  obtain ⟨t, rfl⟩ := rx
  obtain ⟨mA, J, _⟩ := ins_get I.hok ha
  obtain ⟨od, J, _⟩ := J.look
  obtain ⟨id, B, s1, s2, s3, s4⟩ := IC.sl
  show wpAny _ _ (richCompare .NotEq _ _) _ _ _
  exact cmpR_K hr.units0 I.kIn J rfl T.nInt s1 s2 (s3 _ _ _) s4 (tryNe_K (hu_of hr) I.kIn J hn T.obj hs hf (wpAny_mono (run_in1 F hr hb hx I (v2ri _ _ _) q) (fun v s' z => ne_back z) fun _ _ e => e))
end
end Mo

namespace Mo
open PySem PySem.W PySem.Calls PyProof.Rows
section
variable {prog : Program} {w : World} {M : Model} {A : Around} {E : Value → Shared → Prop} {s : Shared} {K : Frag} {x C L f : Addr} {h₀ : Heap} {m : Str → Option Value} {ox : Obj} {od : Option Obj}
/-- the class's mro is itself and object -/
def twoUp (K : Frag) (C : Addr) : Bool := (clsIn K C).any fun cd => cd.mro == [.ref C, .type "object"]
theorem noInpl {op : Operator} {h : Heap} {add : Bool} (X : K.In h) (h2 : twoUp K C = true) (hi : findIn K (.ref C) (dunderI op.info.2) = some none) (ho : ∀ M : Model, Looks M h (typeLookup (.type "object") (dunderI op.info.2)) none) : Looks M h (fillsInplaceSlot (.ref C) op.info.2 add) false := by
  intro A Q E s k q
  obtain ⟨cd, hc, hm0⟩ := any_some h2
  have hm : cd.mro = [.ref C, .type "object"] := beq_iff_eq.mp hm0
  have Lm : Looks M h (mroOf (.ref C)) cd.mro := (looks_clsIn X hc).andThen (f := fun cd => pure cd.mro) .now
  have Lm' := Lm.keeps k
  have L2 := (ho M).keeps k
  obtain ⟨hh, g, d, tt, os⟩ := s
  have X' : K.In hh := X.keeps k
  have L1 : Looks M hh (typeLookup (.ref C) (dunderI op.info.2)) none := looks_findIn X' hi
  unfold fillsInplaceSlot
  refine wpAny_bind (Lm'.at ?_)
  rw [hm, List.anyM_cons]
  refine wpAny_bind ?_
  repeat lk
  exact q
/-- what both of an own class's two-place operators come to: the left one's method -/
theorem bin1_same {nm : String} {b : Value} {Q : Value → Shared → Prop} (X : K.In s.heap) (I : InstAt s.heap x ox C od) (hb : Looks (model prog w) s.heap (typeOf b) (.ref C)) (hc : selfFirst K C = true)
    (hs : findIn K (.ref C) (PySem.dunder nm) = some (some (.ref f))) (hf : isFn K (.ref f) = true) (h : wpAny (model prog w) A (call (.ref f) [.ref x, b]) (W.CmpBack Q) E s) :
    wpAny (model prog w) A (binaryOp1 nm (.ref x) b) (fun r s' => ∃ v, r = some v ∧ Q v s') E s := by
  obtain ⟨cd, rest, hcd, hm⟩ := ksp_first hc
  have one := ksp_try X I hs hf h
  have Lf : Looks (model prog w) s.heap (fillsNumberSlot (.ref C) nm) true := fills_K X hcd hm hs
  unfold binaryOp1
  refine wpAny_bind (I.type.here (wpAny_bind (hb.here (wpAny_bind (Lf.here ?_)))))
  simp only [beq_self_eq_true, if_true]
  refine wpAny_bind (wpAny_pure ?_)
  simp only [Bool.and_false, Bool.false_eq_true, if_false, Bool.false_and]
  refine wpAny_bind (wpAny_pure ?_)
  simp only [Bool.false_eq_true, if_false]
  refine wpAny_bind (m := tryMethod (.ref x) _ b) (wpAny_mono one (fun r s' ⟨v, e, hq⟩ => ?_) fun _ _ e => e)
  subst e
  exact wpAny_pure ⟨v, rfl, hq⟩
theorem bin1_type {nm T : String} {b : Value} {fo ro rc : Option Value} {Q : Value → Shared → Prop} (X : K.In s.heap) (I : InstAt s.heap x ox C od) (hb : typeOf b = pure (.type T)) (hc : selfFirst K C = true)
    (hs : findIn K (.ref C) (PySem.dunder nm) = some (some (.ref f))) (hf : isFn K (.ref f) = true) (hr : findIn K (.ref C) (dunderR nm) = some rc) (hp : rc = none ∨ ∃ g : Addr, rc = some (.ref g))
    (h1 : findIn K (.type T) (PySem.dunder nm) = some fo) (h2 : findIn K (.type T) (dunderR nm) = some ro) (hsub : subIn K (.type T) (.ref C) = some false)
    (h : wpAny (model prog w) A (call (.ref f) [.ref x, b]) (W.CmpBack Q) E s) : wpAny (model prog w) A (binaryOp1 nm (.ref x) b) (fun r s' => ∃ v, r = some v ∧ Q v s') E s := by
  obtain ⟨cd, rest, hcd, hm⟩ := ksp_first hc
  have one := ksp_try X I hs hf h
  obtain ⟨hh, g, d, tk, os⟩ := s
  have M1 : Looks (model prog w) hh (typeOf (.ref x)) (.ref C) := I.type
  have M2 : Looks (model prog w) hh (typeOf b) (.type T) := Looks.of_pure hb
  have M3 : Looks (model prog w) hh (fillsNumberSlot (.ref C) nm) true := fills_K X hcd hm hs
  have M4 : Looks (model prog w) hh (fillsNumberSlot (.type T) nm) ((fo.isSome && !isSeqSlot fo) || (ro.isSome && !isSeqSlot ro)) := ksp_fillsT X h1 h2
  have M5 : Looks (model prog w) hh (isSubtype (.type T) (.ref C)) false := looks_subIn X hsub
  have M6 : Looks (model prog w) hh (numberSlotInPython (.ref C) nm) true := ksp_inPy X hs hr hp
  have M7 : Looks (model prog w) hh (numberSlotInPython (.type T) nm) false := Looks.of_pure rfl
  have M8 : Looks (model prog w) hh (typeLookup (.type T) (dunderR nm)) ro := looks_findIn X h2
  generalize ((fo.isSome && !isSeqSlot fo) || (ro.isSome && !isSeqSlot ro)) = right at M4
  have hne : (Value.ref C == Value.type T) = false := Bool.eq_false_iff.mpr fun q => by cases beq_iff_eq.mp q
  unfold binaryOp1
  refine wpAny_bind (M1.at (wpAny_bind (M2.at (wpAny_bind (M3.at ?_)))))
  simp only [hne, Bool.false_eq_true, if_false]
  cases right <;> (ksp_lk; refine wpAny_mono one (fun r s' hr' => ?_) fun _ _ e => e; obtain ⟨v, rfl, hq⟩ := hr'; ksp_lk; exact ⟨v, rfl, hq⟩)
theorem inpl_K {op : Operator} {b : Value} {Q : Value → Shared → Prop} (X : K.In s.heap) (I : InstAt s.heap x ox C od) (h2 : twoUp K C = true) (hi : findIn K (.ref C) (dunderI op.info.2) = some none) (ho : ∀ (M : Model) (h : Heap), Looks M h (typeLookup (.type "object") (dunderI op.info.2)) none)
    (h : wpAny (model prog w) A (binaryOp1 op.info.2 (.ref x) b) (fun r s' => ∃ v, r = some v ∧ Q v s') E s) : wpAny (model prog w) A (inplaceOp op (.ref x) b) Q E s := by
  have N : Looks (model prog w) s.heap (fillsInplaceSlot (.ref C) op.info.2 (op == .Add)) false := noInpl X h2 hi fun M => ho M _
  unfold inplaceOp
  refine wpAny_holding (wpAny_bind (I.type.here (wpAny_bind (N.here ?_))))
  rw [if_neg Bool.false_ne_true]
  refine wpAny_bind (wpAny_mono h (fun r s' hr' => ?_) fun _ _ e => e)
  obtain ⟨v, rfl, hq⟩ := hr'
  exact wpAny_pure hq
end
open L2
section
variable {X : Cx} {CX : CXT} {n k : Nat} {f f₁ C : Addr} {fd : FuncData} {ps : List Str} {sp : Sp} {E : XK}
/-- a op= b, the class without the in-place method -/
theorem iop_own {op : Operator} (T : Opc X.K C) (h2 : twoUp X.K C = true) (hi : PySem.W.findIn X.K (.ref C) (dunderI op.info.2) = some none) (ho : typeLookup (.type "object") (dunderI op.info.2) = pure none)
    (IO : IntOp op) (O : Op2 X.K C op.info.2 f) (F : FnOk X.prog X.w X.K X.mg X.base CX n f fd ps sp) (hr : Room n X.A) (hb : Binds X.K fd ps []) (hx : Passes CX X E) : OpR X (inplaceOp op) (rOwn C sp E) := by
  intro pins s σ H x y v u Q I rx ry h
  obtain ⟨⟨a, dx, fs, rfl, ha⟩, hy, q⟩ := h
  cases rx
  obtain ⟨mA, J, _⟩ := ins_get I.hok ha
  obtain ⟨od, J, _⟩ := J.look
  refine inpl_K I.kIn J h2 hi (fun M h => Looks.of_pure ho) ?_
  rcases hy with ⟨b, dy, gs, rfl, hb'⟩ | ⟨i, rfl⟩
  · cases ry
    obtain ⟨mB, J', _⟩ := ins_get I.hok hb'
    obtain ⟨od', J', _⟩ := J'.look
    exact bin1_same I.kIn J J'.type T.sf O.at_ O.fn (run_op F hr hb hx I (v2rr _ _) q)
  · obtain ⟨t, rfl⟩ := ry
    obtain ⟨fo, ro, e1, e2⟩ := IO.fo
    obtain ⟨g, e3⟩ := O.rr
    obtain ⟨rc, e4, e5⟩ : ∃ rc, PySem.W.findIn X.K (.ref C) (PySem.dunderR op.info.2) = some rc ∧ (rc = none ∨ ∃ g : Addr, rc = some (.ref g)) := by
      rcases e3 with e3 | e3
      · exact ⟨_, e3, .inl rfl⟩
      · exact ⟨_, e3, .inr ⟨g, rfl⟩⟩
    exact bin1_type (T := "int") I.kIn J rfl T.sf O.at_ O.fn e4 e5 (e1 _) (e2 _) nf_int (run_op F hr hb hx I (v2ri _ _ _) q)
/-! the operators' facts of int -/
theorem dec_fdiv : Declines Builtin.«int.__floordiv__» := by
  intro M A E s i t x ox Q hx hd h
  obtain ⟨hp, g', d, tk, os⟩ := s
  unfold Builtin.«int.__floordiv__» Builtin.Int.intBinary
  wp_walk using wpAny_loadPart' hx
  rw [hd]
  wp_walk using wpAny_loadPart' hx
  rw [hd]
  wp_walk
  exact h
theorem io_add : IntOp .Add := ⟨some (.builtin "int.__add__"), some (.builtin "int.__radd__"), fun K => (show PySem.fastLookup "int" (PySem.dunder "add") = _ by decide +kernel), fun K => (show PySem.fastLookup "int" (PySem.dunderR "add") = _ by decide +kernel)⟩
theorem ir_add : IntOpR .Add := ⟨⟨_, _, PySem.F.slot_int_add, PySem.F.entry_int_add, fun _ _ _ => PySem.F.args_int_add_2 _ _, dec_bin⟩, PySem.F.fills_int_add⟩
theorem io_sub : IntOp .Sub := ⟨some (.builtin "int.__sub__"), some (.builtin "int.__rsub__"), fun K => (show PySem.fastLookup "int" (PySem.dunder "sub") = _ by decide +kernel), fun K => (show PySem.fastLookup "int" (PySem.dunderR "sub") = _ by decide +kernel)⟩
theorem ir_sub : IntOpR .Sub := ⟨⟨_, _, PySem.F.slot_int_sub, PySem.F.entry_int_sub, fun _ _ _ => PySem.F.args_int_sub_2 _ _, dec_bin⟩, PySem.F.fills_int_sub⟩
theorem io_mul : IntOp .Mult := ⟨some (.builtin "int.__mul__"), some (.builtin "int.__rmul__"), fun K => (show PySem.fastLookup "int" (PySem.dunder "mul") = _ by decide +kernel), fun K => (show PySem.fastLookup "int" (PySem.dunderR "mul") = _ by decide +kernel)⟩
theorem ir_mul : IntOpR .Mult := ⟨⟨_, _, PySem.F.slot_int_mul, PySem.F.entry_int_mul, fun _ _ _ => PySem.F.args_int_mul_2 _ _, dec_bin⟩, PySem.F.fills_int_mul⟩
theorem io_floordiv : IntOp .FloorDiv := ⟨some (.builtin "int.__floordiv__"), some (.builtin "int.__rfloordiv__"), fun K => (show PySem.fastLookup "int" (PySem.dunder "floordiv") = _ by decide +kernel), fun K => (show PySem.fastLookup "int" (PySem.dunderR "floordiv") = _ by decide +kernel)⟩
theorem ir_floordiv : IntOpR .FloorDiv := ⟨⟨_, _, PySem.F.slot_int_floordiv, PySem.F.entry_int_floordiv, fun _ _ _ => PySem.F.args_int_floordiv_2 _ _, dec_fdiv⟩, PySem.F.fills_int_floordiv⟩
theorem io_mod : IntOp .Mod := ⟨some (.builtin "int.__mod__"), some (.builtin "int.__rmod__"), fun K => (show PySem.fastLookup "int" (PySem.dunder "mod") = _ by decide +kernel), fun K => (show PySem.fastLookup "int" (PySem.dunderR "mod") = _ by decide +kernel)⟩
theorem ir_mod : IntOpR .Mod := ⟨⟨_, _, PySem.F.slot_int_mod, PySem.F.entry_int_mod, fun _ _ _ => PySem.F.args_int_mod_2 _ _, dec_bin⟩, PySem.F.fills_int_mod⟩
theorem ic_lt : IntCmp .Lt := ⟨fun _ _ => rfl, ⟨_, _, PySem.F.slot_int_lt, PySem.F.entry_int_lt, fun _ _ _ => PySem.F.args_int_lt_2 _ _, dec_bin⟩⟩
theorem ic_le : IntCmp .LtE := ⟨fun _ _ => rfl, ⟨_, _, PySem.F.slot_int_le, PySem.F.entry_int_le, fun _ _ _ => PySem.F.args_int_le_2 _ _, dec_bin⟩⟩
theorem ic_gt : IntCmp .Gt := ⟨fun _ _ => rfl, ⟨_, _, PySem.F.slot_int_gt, PySem.F.entry_int_gt, fun _ _ _ => PySem.F.args_int_gt_2 _ _, dec_bin⟩⟩
theorem ic_ge : IntCmp .GtE := ⟨fun _ _ => rfl, ⟨_, _, PySem.F.slot_int_ge, PySem.F.entry_int_ge, fun _ _ _ => PySem.F.args_int_ge_2 _ _, dec_bin⟩⟩
theorem ic_eq : IntCmp .Eq := ⟨fun _ _ => rfl, ⟨_, _, PySem.F.slot_int_eq, PySem.F.entry_int_eq, fun _ _ _ => PySem.F.args_int_eq_2 _ _, dec_bin⟩⟩
theorem ic_ne : IntCmp .NotEq := ⟨fun _ _ => rfl, ⟨_, _, PySem.F.slot_int_ne, PySem.F.entry_int_ne, fun _ _ _ => PySem.F.args_int_ne_2 _ _, dec_bin⟩⟩
end
end Mo

namespace Mo
open PySem L2
/-! ### fractions in lowest terms -/
def Red (t b : Int) : Prop := 0 < b ∧ Int.gcd t b = 1
structure Norm (n d t b : Int) : Prop where
  pos : 0 < b
  gcd : Int.gcd t b = 1
  eq : t * d = n * b
  tle : t.natAbs ≤ n.natAbs
  ble : b.natAbs ≤ d.natAbs
theorem Norm.red {n d t b : Int} (h : Norm n d t b) : Red t b := ⟨h.pos, h.gcd⟩
def sg (n d : Int) : Int := if 0 < d then ((Nat.gcd n.natAbs d.natAbs : Nat) : Int) else -((Nat.gcd n.natAbs d.natAbs : Nat) : Int)
theorem sg_ne {n d : Int} (hd : d ≠ 0) : sg n d ≠ 0 := by
  have hg : 0 < Nat.gcd n.natAbs d.natAbs := Nat.gcd_pos_of_pos_right _ (by omega)
  unfold sg
  split <;> omega
theorem sg_le {n d : Int} (hd : d ≠ 0) : (sg n d).natAbs ≤ d.natAbs := by
  have hg : Nat.gcd n.natAbs d.natAbs ≤ d.natAbs := Nat.gcd_le_right _ (by omega)
  unfold sg
  split <;> omega
theorem norm_mk {n d : Int} (hd : d ≠ 0) : Norm n d (n.fdiv (sg n d)) (d.fdiv (sg n d)) := by
  have hg : 0 < Nat.gcd n.natAbs d.natAbs := Nat.gcd_pos_of_pos_right _ (by omega)
  have hne := sg_ne (n := n) hd
  have habs : (sg n d).natAbs = Int.gcd n d := by
    show _ = Nat.gcd n.natAbs d.natAbs
    unfold sg
    split <;> omega
  have hs1 : 0 < d → 0 < sg n d := fun h0 => by unfold sg; rw [if_pos h0]; omega
  have hs2 : d < 0 → sg n d < 0 := fun h0 => by unfold sg; rw [if_neg (by omega)]; omega
  have hn : sg n d ∣ n := by
    rw [← Int.natAbs_dvd, habs]
    exact Int.gcd_dvd_left n d
  have hdd : sg n d ∣ d := by
    rw [← Int.natAbs_dvd, habs]
    exact Int.gcd_dvd_right n d
  generalize sg n d = g at *
  obtain ⟨n', en⟩ := hn
  obtain ⟨d', ed⟩ := hdd
  subst en
  subst ed
  rw [Int.mul_fdiv_cancel_left _ hne, Int.mul_fdiv_cancel_left _ hne]
  have hp : 0 < g.natAbs := by omega
  have hgg : Int.gcd n' d' = 1 := by
    rw [Int.gcd_mul_left] at habs
    exact Nat.eq_of_mul_eq_mul_left hp (by rw [Nat.mul_one]; exact habs.symm)
  refine ⟨?_, hgg, ?_, ?_, ?_⟩
  · by_cases h0 : 0 < g * d'
    · exact Int.lt_of_mul_lt_mul_left (a := g) (by rw [Int.mul_zero]; exact h0) (Int.le_of_lt (hs1 h0))
    · have h1 : g * d' < 0 := by omega
      have h2 : 0 < (-g) * d' := by rw [Int.neg_mul]; omega
      exact Int.lt_of_mul_lt_mul_left (a := -g) (by rw [Int.mul_zero]; exact h2) (by have := hs2 h1; omega)
  · rw [Int.mul_left_comm, Int.mul_assoc]
  · rw [Int.natAbs_mul]
    exact Nat.le_mul_of_pos_left _ hp
  · rw [Int.natAbs_mul]
    exact Nat.le_mul_of_pos_left _ hp
theorem red_dvd {t b t' b' : Int} (h : Int.gcd t b = 1) (e : t * b' = t' * b) : b ∣ b' := by
  have h1 : b.natAbs ∣ t.natAbs * b'.natAbs := by
    rw [← Int.natAbs_mul, e, Int.natAbs_mul]
    exact Nat.dvd_mul_left _ _
  have h2 : Nat.Coprime b.natAbs t.natAbs := by
    show Nat.gcd b.natAbs t.natAbs = 1
    rw [Nat.gcd_comm]
    exact h
  exact Int.natAbs_dvd_natAbs.mp (h2.dvd_of_dvd_mul_left h1)
theorem red_eq {t b t' b' : Int} (h : Red t b) (h' : Red t' b') (e : t * b' = t' * b) : t = t' ∧ b = b' := by
  have d1 := red_dvd h.2 e
  have d2 := red_dvd h'.2 e.symm
  have hb : b = b' := Int.dvd_antisymm (Int.le_of_lt h.1) (Int.le_of_lt h'.1) d1 d2
  subst hb
  exact ⟨Int.eq_of_mul_eq_mul_right (by have := h.1; omega) e, rfl⟩
theorem red_iff {t b t' b' : Int} (h : Red t b) (h' : Red t' b') : (t = t' ∧ b = b') ↔ t * b' = t' * b :=
  ⟨fun ⟨e1, e2⟩ => by rw [e1, e2], red_eq h h'⟩
/-! ### sizes -/
def Sm (k : Nat) (n : Int) : Prop := n.natAbs < 2 ^ k
theorem Sm.mono {k j : Nat} {n : Int} (h : Sm k n) (hk : k ≤ j) : Sm j n := Nat.lt_of_lt_of_le h (Nat.pow_le_pow_right (by decide) hk)
theorem Sm.mul {k j : Nat} {n m : Int} (h : Sm k n) (h' : Sm j m) : Sm (k + j) (n * m) := wide_lt h h'
theorem Sm.add {k : Nat} {n m : Int} (h : Sm k n) (h' : Sm k m) : Sm (k + 1) (n + m) := by
  unfold Sm at *
  rw [Nat.pow_succ]
  omega
theorem Sm.sub {k : Nat} {n m : Int} (h : Sm k n) (h' : Sm k m) : Sm (k + 1) (n - m) := by
  unfold Sm at *
  rw [Nat.pow_succ]
  omega
theorem Sm.neg {k : Nat} {n : Int} (h : Sm k n) : Sm k (-n) := by
  unfold Sm at *
  omega
theorem Sm.le {k : Nat} {n m : Int} (h : Sm k m) (h' : n.natAbs ≤ m.natAbs) : Sm k n := Nat.lt_of_le_of_lt h' h
theorem Sm.of {k : Nat} {n m : Int} (h : -m ≤ n ∧ n ≤ m) (hm : m.natAbs < 2 ^ k) : Sm k n := Nat.lt_of_le_of_lt (by omega) hm
theorem Sm.cmul {k j : Nat} {n m : Int} (h : Sm k n) (h' : Sm j m) (h0 : 0 < k := by decide) (h1 : 0 < j := by decide) (hk : k + j ≤ 1000000 := by decide) : CMulW n m := wide_mul h h' h0 h1 hk
/-- // by a divisor that is not 0, below 2 ^ 9000 -/
def CDivNW (_ j : Int) : Prop := j ≠ 0 ∧ j.natAbs.log2 < 9000
theorem op_fdivNW {X : Cx} : OpR X (binaryOp .FloorDiv) (rI CDivNW fun i j => .int (i.fdiv j)) := opI fun i j _ _ _ _ _ hc q => PyProof.Rows.floordiv_int hc.1 q (.inl (PyProof.noPylong_of_log2 hc.2))
theorem Sm.cdiv {k : Nat} {i j : Int} (h : Sm k j) (h0 : j ≠ 0) (h1 : 0 < k := by decide) (hk : k ≤ 9000 := by decide) : CDivNW i j := ⟨h0, Nat.lt_of_lt_of_le (PySem.Flt.log2_lt_of h1 h) hk⟩
end Mo

namespace Mo
open PySem L2
open Evl (Ex)
/-! ### a moment as an object -/
def mf (t b : Int) : List (Str × V) := putF "bottom" (.int b) (putF "top" (.int t) [])
theorem ntb : ¬ (("top" : Str) = "bottom") := by decide +kernel
theorem mf_eq (t b : Int) : mf t b = ([("top", V.int t), ("bottom", V.int b)] : List (Str × V)) := by
  show (if ("top" : Str) = "bottom" then [(("top" : Str), V.int b)] else (("top" : Str), V.int t) :: putF "bottom" (V.int b) []) = ([("top", V.int t), ("bottom", V.int b)] : List (Str × V))
  rw [if_neg ntb]
  all_goals rfl
theorem mf_top (t b : Int) : (mf t b).lookup ("top" : Str) = some (.int t) := by
  unfold mf
  rw [lookup_putF, if_neg ntb, lookup_putF, if_pos rfl]
theorem mf_bottom (t b : Int) : (mf t b).lookup ("bottom" : Str) = some (.int b) := by
  unfold mf
  rw [lookup_putF, if_pos rfl]
theorem mf_no (t b : Int) {m : Str} (h1 : ¬ m = "bottom") (h2 : ¬ m = "top") : (mf t b).lookup m = none := by
  unfold mf
  rw [lookup_putF, if_neg h1, lookup_putF, if_neg h2]
  all_goals rfl
def Mo (C : Addr) (t b : Int) (v : V) (H : Hp) : Prop := ∃ a dx, v = .ref a ∧ H a = some (.ins C dx (mf t b))
theorem Mo.ex {C : Addr} {t b : Int} {v : V} {H H' : Hp} (h : Mo C t b v H) (e : Ex H H') : Mo C t b v H' := by
  obtain ⟨a, dx, r, q⟩ := h
  exact ⟨a, dx, r, e _ _ q⟩
theorem Mo.isC {C : Addr} {t b : Int} {v : V} {H : Hp} (h : Mo C t b v H) : IsC C v H := by
  obtain ⟨a, dx, r, q⟩ := h
  exact ⟨a, dx, _, r, q⟩
theorem Mo.par {C : Addr} {t b : Int} {v : V} {H : Hp} (h : Mo C t b v H) : Par C H v := by
  obtain ⟨a, dx, rfl, q⟩ := h
  exact .ins q
/-- the fraction of a time: a moment, or an int -/
def Tm (C : Addr) (t b : Int) (v : V) (H : Hp) : Prop := Mo C t b v H ∨ (v = .int t ∧ b = 1)
theorem Tm.ex {C : Addr} {t b : Int} {v : V} {H H' : Hp} (h : Tm C t b v H) (e : Ex H H') : Tm C t b v H' := h.elim (fun h => .inl (h.ex e)) .inr
theorem Tm.par {C : Addr} {t b : Int} {v : V} {H : Hp} (h : Tm C t b v H) : Par C H v := by
  rcases h with h | ⟨rfl, _⟩
  · exact h.par
  · exact .int _
theorem Tm.op {C : Addr} {t b : Int} {v : V} {H : Hp} (h : Tm C t b v H) : IsC C v H ∨ ∃ i, v = .int i := by
  rcases h with h | ⟨rfl, _⟩
  · exact .inl h.isC
  · exact .inr ⟨_, rfl⟩
/-! ### a def, a method, a class as the top has left them -/
section
variable (P : Program) (w : World) (K : PySem.W.Frag) (mg : Str → Option Value) (base : Heap)
/-- a def by its name, that keeps sp -/
def Ok (CX : CXT) (k : Nat) (x : Str) (ps : List Str) (sp : Sp) : Prop := ∃ f fd, FnOk P w K mg base CX k f fd ps sp ∧ mg x = some (.ref f) ∧ PySem.W.keepIn K (.ref f) = true ∧ Binds K fd ps []
/-- a method of the class at C -/
def OkM (C : Addr) (CX : CXT) (k : Nat) (x : Str) (ps : List Str) (sp : Sp) : Prop := ∃ f fd, FnOk P w K mg base CX k f fd ps sp ∧ PySem.W.findIn K (.ref C) x = some (some (.ref f)) ∧ PySem.W.isFn K (.ref f) = true ∧ PySem.W.keepIn K (.ref f) = true ∧ Binds K fd ps []
end
/-! ### promises -/
def spCell (K : PySem.W.Frag) : Sp := fun vs H Q _ => ∃ (l : Addr) (ns : List Int) (j : Int), vs = [.ref l, .int j] ∧ SqL K H l (ns.map V.int) ∧ 0 ≤ j ∧ ns.length ≤ 63 ∧ ∀ z : Int, Q (.int z) H
def spRow (K : PySem.W.Frag) : Sp := fun vs H Q _ => ∃ (c : Int) (l : Addr) (zs : List Int), vs = [.int c, .ref l] ∧ SqL K H l (zs.map V.int) ∧ zs.length ≤ 40 ∧ (∀ z ∈ zs, 0 < z ∧ z < 1073741824) ∧
  ∀ (p : Addr) (ys : List Int) (H' : Hp), Ex H H' → H' p = some (.lst (ys.map V.int)) → ys.length = zs.length → (∀ (i : Nat) (y z : Int), ys[i]? = some y → zs[i]? = some z → 0 ≤ y ∧ y < z) → Q (.ref p) H'
def spWhole : Sp := fun vs H Q _ => ∃ c m : Int, vs = [.int c, .int m] ∧ 0 < m ∧ Sm 1000 m ∧ ∀ z : Int, -m ≤ z → z ≤ m → Q (.int z) H
def spRatio : Sp := fun vs H Q _ => ∃ a b m : Int, vs = [.int a, .int b, .int m] ∧ 0 < m ∧ Sm 1000 m ∧ ∀ (t d : Int) (p : Addr) (H' : Hp), Ex H H' → H' p = some (.tup [.int t, .int d]) → -m ≤ t → t ≤ m → -m ≤ d → d ≤ m → d ≠ 0 → Q (.ref p) H'
def spGcd : Sp := fun vs H Q _ => ∃ a b : Int, vs = [.int a, .int b] ∧ Sm 8000 a ∧ Sm 8000 b ∧ Q (.int ((Int.gcd a b : Nat) : Int)) H
def spIsInt : Sp := fun vs H Q _ => ∃ a : Int, vs = [.int a] ∧ ∀ H', Ex H H' → Q (.bl true) H'
def spHolds (C : Addr) : Sp := fun vs H Q _ => ∃ (x : V) (t b n d : Int), vs = [x, .int n, .int d] ∧ Mo C t b x H ∧ Red t b ∧ t * d = n * b ∧ Sm 4000 t ∧ Sm 4000 b ∧ Sm 4000 n ∧ Sm 4000 d ∧ ∀ H', Ex H H' → Q (.bl true) H'
/-- Moment(n, d); CN: NoMoment -/
def spInit (C CN : Addr) : Sp := fun vs H Q E => ∃ (p dx : Addr) (n d : Int), vs = [.ref p, .int n, .int d] ∧ H p = some (.ins C dx []) ∧ Sm 8000 n ∧ Sm 8000 d ∧
  (d = 0 → ∀ (dd : Addr) (fs : List (Str × V)) (H' : Hp), H dd = none → fs.lookup ("top" : Str) = some (.int n) → fs.lookup ("bottom" : Str) = some (.int 0) → H' dd = some (.xd fs) → (∀ q o, H q = some o → H' q = some o) → E (.ref CN) (some dd) H') ∧
  (d ≠ 0 → ∀ t b : Int, Norm n d t b → Q .non (upd H p (.ins C dx (mf t b))))
end Mo
namespace Mo
open PySem L2
open Evl (Ex)
section
variable (P : Program) (w : World) (K : PySem.W.Frag) (mg : Str → Option Value) (base : Heap)
def psIn : List Str := ["self", "top", "bottom"]
/-- the class's maker -/
def OkI (C CN : Addr) : Prop := ∃ f fd ds, FnOk P w K mg base (L2.CX P w) 4 f fd psIn (spInit C CN) ∧ Mk K C f ∧ Binds K fd psIn [] ∧ Vals [.int 1] ds ∧ Binds K fd psIn ds
end
theorem made_ok {C : Addr} {H : Hp} {x dx : Addr} (t b : Int) (n1 : H x = none) (n2 : H dx = none) (h : dx ≠ x) :
    Ex H (upd (upd (upd H dx (.own x)) x (.ins C dx [])) x (.ins C dx (mf t b))) ∧ Mo C t b (.ref x) (upd (upd (upd H dx (.own x)) x (.ins C dx [])) x (.ins C dx (mf t b))) := by
  refine ⟨fun a o e => ?_, x, dx, rfl, upd_same⟩
  have q1 : a ≠ x := ne_of_none e n1
  have q2 : a ≠ dx := ne_of_none e n2
  rw [upd_ne q1, upd_ne q1, upd_ne q2]
  exact e
theorem mk_rd {C CN : Addr} {n d : Int} {H : Hp} {Q : VK} {E : XK} (sn : Sm 8000 n) (sd : Sm 8000 d) (hd : d ≠ 0) (k : ∀ (t b : Int) (v : V) (H' : Hp), Norm n d t b → Ex H H' → Mo C t b v H' → Q v H') :
    ∀ x dx, H x = none → H dx = none → dx ≠ x → spInit C CN (.ref x :: ([.int n, .int d] ++ [])) (upd (upd H dx (.own x)) x (.ins C dx [])) (fun v H2 => v = .non ∧ Q (.ref x) H2) E :=
  fun x dx n1 n2 n3 => ⟨x, dx, n, d, rfl, upd_same, sn, sd, fun z => absurd z hd, fun _ t b N => ⟨rfl, k t b _ _ N (made_ok t b n1 n2 n3).1 (made_ok t b n1 n2 n3).2⟩⟩
theorem mk_rd1 {C CN : Addr} {n : Int} {H : Hp} {Q : VK} {E : XK} (sn : Sm 8000 n) (k : ∀ (v : V) (H' : Hp), Ex H H' → Mo C n 1 v H' → Q v H') :
    ∀ x dx, H x = none → H dx = none → dx ≠ x → spInit C CN (.ref x :: ([.int n] ++ [.int 1])) (upd (upd H dx (.own x)) x (.ins C dx [])) (fun v H2 => v = .non ∧ Q (.ref x) H2) E :=
  fun x dx n1 n2 n3 => ⟨x, dx, n, 1, rfl, upd_same, sn, (by show (1 : Int).natAbs < 2 ^ 8000; exact Nat.lt_of_lt_of_le (by decide : (1 : Int).natAbs < 2 ^ 1) (Nat.pow_le_pow_right (by decide) (by decide))), fun z => absurd z (by decide), fun _ t b N => by
    have b1 : b = 1 := by
      have := N.pos
      have := N.ble
      omega
    have t1 : t = n := by
      have := N.eq
      rw [b1] at this
      omega
    rw [b1, t1]
    exact ⟨rfl, k _ _ (made_ok n 1 n1 n2 n3).1 (made_ok n 1 n1 n2 n3).2⟩⟩
def spIsTime (C : Addr) : Sp := fun vs H Q _ => ∃ (x : V) (t b : Int), vs = [x] ∧ Tm C t b x H ∧ ∀ H', Ex H H' → Q (.bl true) H'
def spAsM (C : Addr) : Sp := fun vs H Q _ => ∃ (x : V) (t b : Int), vs = [x] ∧ Tm C t b x H ∧ Sm 8000 t ∧ ∀ (v : V) (H' : Hp), Ex H H' → Mo C t b v H' → Q v H'
/-- a two-place operator: the exact fraction num / den, in lowest terms -/
def spBin (C : Addr) (num den : Int → Int → Int → Int → Int) : Sp := fun vs H Q _ => ∃ (x y : V) (t b t' b' : Int), vs = [x, y] ∧ Mo C t b x H ∧ Tm C t' b' y H ∧ 0 < b ∧ 0 < b' ∧ Sm 1900 t ∧ Sm 1900 b ∧ Sm 1900 t' ∧ Sm 1900 b' ∧
  ∀ (t2 b2 : Int) (v : V) (H' : Hp), Norm (num t b t' b') (den t b t' b') t2 b2 → Ex H H' → Mo C t2 b2 v H' → Q v H'
/-- its reflected twin: self the right operand -/
def spBinR (C : Addr) (num den : Int → Int → Int → Int → Int) : Sp := fun vs H Q _ => ∃ (x y : V) (t b t' b' : Int), vs = [x, y] ∧ Mo C t b x H ∧ Tm C t' b' y H ∧ 0 < b ∧ 0 < b' ∧ Sm 1900 t ∧ Sm 1900 b ∧ Sm 1900 t' ∧ Sm 1900 b' ∧
  ∀ (t2 b2 : Int) (v : V) (H' : Hp), Norm (num t' b' t b) (den t' b' t b) t2 b2 → Ex H H' → Mo C t2 b2 v H' → Q v H'
def nAdd (t b t' b' : Int) : Int := t * b' + t' * b
def nSub (t b t' b' : Int) : Int := t * b' - t' * b
def nMul (t _ t' _ : Int) : Int := t * t'
def dAll (_ b _ b' : Int) : Int := b * b'
end Mo
namespace Mo
open PySem L2
theorem sml {n : Int} {k : Nat} (h : n.natAbs < 2 ^ k) : Sm k n := h
theorem Sm.ofR {k : Nat} {n m : Int} (h1 : -m ≤ n) (h2 : n ≤ m) (hm : Sm k m) : Sm k n := Sm.of ⟨h1, h2⟩ hm
/-! exact arithmetic of fractions n / d, told by t / b -/
theorem add_eq {t2 b2 ta ba tb bb n1 d1 n2 d2 : Int} (N : Norm (nAdd ta ba tb bb) (dAll ta ba tb bb) t2 b2) (h1 : ta * d1 = n1 * ba) (h2 : tb * d2 = n2 * bb) (p1 : 0 < ba) (p2 : 0 < bb) : t2 * (d1 * d2) = (n1 * d2 + n2 * d1) * b2 := by
  have h : t2 * (ba * bb) = (ta * bb + tb * ba) * b2 := N.eq
  exact Int.eq_of_mul_eq_mul_left (Int.ne_of_gt (Int.mul_pos p1 p2)) (by grind)
theorem sub_eq {t2 b2 ta ba tb bb n1 d1 n2 d2 : Int} (N : Norm (nSub ta ba tb bb) (dAll ta ba tb bb) t2 b2) (h1 : ta * d1 = n1 * ba) (h2 : tb * d2 = n2 * bb) (p1 : 0 < ba) (p2 : 0 < bb) : t2 * (d1 * d2) = (n1 * d2 - n2 * d1) * b2 := by
  have h : t2 * (ba * bb) = (ta * bb - tb * ba) * b2 := N.eq
  exact Int.eq_of_mul_eq_mul_left (Int.ne_of_gt (Int.mul_pos p1 p2)) (by grind)
theorem mul_eq {t2 b2 ta ba tb bb n1 d1 n2 d2 : Int} (N : Norm (nMul ta ba tb bb) (dAll ta ba tb bb) t2 b2) (h1 : ta * d1 = n1 * ba) (h2 : tb * d2 = n2 * bb) (p1 : 0 < ba) (p2 : 0 < bb) : t2 * (d1 * d2) = (n1 * n2) * b2 := by
  have h : t2 * (ba * bb) = (ta * tb) * b2 := N.eq
  exact Int.eq_of_mul_eq_mul_left (Int.ne_of_gt (Int.mul_pos p1 p2)) (by grind)
theorem Norm.st {n d t b : Int} {k : Nat} (N : Norm n d t b) (h : Sm k n) : Sm k t := h.le N.tle
theorem Norm.sb {n d t b : Int} {k : Nat} (N : Norm n d t b) (h : Sm k d) : Sm k b := h.le N.ble
def spLaw (K : PySem.W.Frag) : Sp := fun vs H Q _ => ∃ (a : Addr) (ns : List Int), vs = [.ref a] ∧ SqL K H a (ns.map V.int) ∧ ns.length ≤ 63 ∧ ∀ H', Q (.bl true) H'
theorem _root_.L2.SqT.ex' {K : PySem.W.Frag} {H H' : Hp} {a : Addr} {xs : List V} (h : SqT K H a xs) (e : Evl.Ex H H') : SqT K H' a xs := Evl.ex_t e h
theorem _root_.L2.SqL.ex' {K : PySem.W.Frag} {H H' : Hp} {a : Addr} {xs : List V} (h : SqL K H a xs) (e : Evl.Ex H H') : SqL K H' a xs := Evl.ex_l e h
end Mo
namespace Mo
theorem eq_of {t a b n a' n' : Int} (z : t * a = n * b) (ha : a' = a := by first | rfl | exact Int.mul_comm _ _ | (simp only [Int.mul_one, Int.one_mul]; done))
    (hn : n' = n := by first | rfl | exact Int.mul_comm _ _ | omega | (simp only [Int.mul_one, Int.one_mul]; done) | (simp only [Int.mul_one, Int.one_mul]; omega)) : t * a' = n' * b := by rw [ha, hn, z]
end Mo
namespace Mo
open PySem L2
theorem kit_self {K : PySem.W.Frag} {C : Addr} : PySem.W.kitOne K (.ref C) (.ref C) = some true := by
  unfold PySem.W.kitOne
  rw [if_pos (beq_self_eq_true _)]
theorem kit_ct {K : PySem.W.Frag} {C : Addr} {T : String} {b : Bool} (h : PySem.W.subIn K (.ref C) (.type T) = some b) (hm : PySem.W.kitMeta T = true := by decide +kernel) : PySem.W.kitOne K (.ref C) (.type T) = some b := by
  unfold PySem.W.kitOne
  rw [if_neg (by intro z; cases beq_iff_eq.mp z)]
  show (if PySem.W.kitMeta T = true then PySem.W.subIn K (.ref C) (.type T) else none) = some b
  rw [if_pos hm, h]
theorem kit_tc {K : PySem.W.Frag} {C : Addr} {T : String} {b : Bool} (hc : PySem.W.isClsIn K C = true) (ht : PySem.W.typeIn K (.ref C) = some (.type "type")) (h : PySem.W.subIn K (.type T) (.ref C) = some b) : PySem.W.kitOne K (.type T) (.ref C) = some b := by
  unfold PySem.W.kitOne
  rw [if_neg (by intro z; cases beq_iff_eq.mp z)]
  have h2 : (PySem.W.clsIn K C).isSome = true := hc
  show (if ((PySem.W.clsIn K C).isSome && PySem.W.typeIn K (.ref C) == some (.type "type")) = true then PySem.W.subIn K (.type T) (.ref C) else none) = some b
  rw [if_pos (by rw [h2, ht]; rfl), h]
theorem two_up {K : PySem.W.Frag} {C : Addr} {cd : ClassData} (h : PySem.W.clsIn K C = some cd) (hm : cd.mro = [.ref C, .type "object"]) : twoUp K C = true := by
  unfold twoUp
  rw [h]
  show (cd.mro == [.ref C, .type "object"]) = true
  rw [hm]
  exact beq_self_eq_true _
end Mo

namespace Mo
open PySem L2
open Evl (Ex)
section
variable {X : Cx} {CX : CXT} {k : Nat} {f C : Addr} {fd : FuncData} {ps : List Str} {sp : Sp} {E : St → XK} {x m : Str} {p pos apos : Pos} {e o : Expr} {es : List Expr} {ta : TE} {t : TA} {dvs : List V} {ds : List Value}
/-- C(..) in a try: what its __init__ raises is wished for at the caller's slots -/
def tMakeS (C : Addr) (sp : Sp) (dvs : List V) (E : St → XK) (t : TA) : TE := fun σ H Q => t σ H fun vs H1 => ∀ x dx, H1 x = none → H1 dx = none → dx ≠ x →
  sp (.ref x :: (vs ++ dvs)) (upd (upd H1 dx (.own x)) x (.ins C dx [])) (fun v H2 => v = .non ∧ Q (.ref x) H2) (E σ)
theorem run_makeS {pins : List (Addr × Obj)} {σ : St} {H : Hp} {s : Shared} {Q : VK} {us : List Value} {vs : List V} (M : Mk X.K C f) (F : FnOk X.prog X.w X.K X.mg X.base CX k f fd ps sp) (hr : Room (k + 1) X.A) (hb : Binds X.K fd ps ds) (hd : Vals dvs ds)
    (hx : PassesAt CX X σ (E σ)) (I : Inv X pins σ H s) (r : Vals vs us)
    (h : ∀ x dx, H x = none → H dx = none → dx ≠ x → sp (.ref x :: (vs ++ dvs)) (upd (upd H dx (.own x)) x (.ins C dx [])) (fun v H2 => v = .non ∧ Q (.ref x) H2) (E σ)) :
    wpAny (model X.prog X.w) X.A (call (.ref C) us) (EP X pins σ Q) X.xe s := by
  have at_ := h (s.heap.objs.size + 1) s.heap.objs.size (I.hok.fresh (Nat.le_succ _)) (I.hok.fresh (Nat.le_refl _)) (Nat.ne_of_lt (Nat.lt_succ_self _))
  have made := Inv.made (C := C) I
  have rel : Vals (V.ref (s.heap.objs.size + 1) :: (vs ++ dvs)) (Value.ref (s.heap.objs.size + 1) :: (us ++ ds)) := .cons rfl (r.append hd)
  have len : (Value.ref (s.heap.objs.size + 1) :: us ++ ds).length = ps.length := by
    have z := rel.length
    rw [F.len _ _ _ _ at_] at z
    exact z.symm
  refine wpAny_call (make_map (f := f) I.kIn M.makes M.init (beq_iff_eq.mp M.fn) (codeAny_mono (F.run _ X.stack _ _ ⟨Value.ref (s.heap.objs.size + 1) :: us, []⟩ (Value.ref (s.heap.objs.size + 1) :: (us ++ ds)) _ _ (E σ) (hr.make C us []) (made.env0.make C us [])
    (hb _ (Value.ref (s.heap.objs.size + 1) :: us) made.kIn len) rel at_) fun res s' q => ?_))
  cases res with
  | error er => exact hx pins _ _ er s' made q
  | ok fl => cases fl with
    | ret u =>
      obtain ⟨v, H', J, rv, ev, q3⟩ := made.after q
      subst ev
      exact ⟨rv, V.ref (s.heap.objs.size + 1), H', J, rfl, q3⟩
    | next => exact q.elim
    | brk => exact q.elim
    | cont => exact q.elim
theorem pe_makeS (M : Mk X.K C f) (F : FnOk X.prog X.w X.K X.mg X.base CX k f fd ps sp) (hr : Room (k + 1) X.A) (hg : Gl X x) (hm : X.mg x = some (.ref C)) (hb : Binds X.K fd ps ds) (hd : Vals dvs ds) (hx : ∀ σ, PassesAt CX X σ (E σ)) (ha : PA X (e :: es) t)
    (hdb : (x == ("__debug__" : Str)) = false := by decide) (he : starEach (e :: es) X.env = (false, eval e X.env) :: starEach es X.env := by rfl) (hpl : (backTo pos (starEach es X.env)).any (·.1) = false := by rfl) :
    PE X (.Call (.Name x p) (e :: es) [] pos) (tMakeS C sp dvs E t) :=
  ⟨fun pins s σ H Q I h => wpAny_Call_Name_kw (ld_glob I hg hm (PySem.W.callWith_K (h₀ := X.base) I.ok.mod.kin M.kp (thn (ha.run pos pins s σ H _ I h) fun us s1 ⟨vs, H1, I1, r, q⟩ => ⟨I1.kIn, run_makeS M F hr hb hd (hx σ) I1 r q⟩) he hpl) hdb)⟩
end
/-- except C, for an error of C -/
theorem exm_own {K : PySem.W.Frag} {S : Addr} (h1 : PySem.W.subIn K (.ref S) (.type "BaseException") = some true) (h2 : PySem.W.isClsIn K S = true) (h3 : PySem.W.typeIn K (.ref S) = some (.type "type")) (h4 : PySem.W.subIn K (.ref S) (.ref S) = some true) : PySem.W.exmOne K (.ref S) (.ref S) = some true := by
  have h2' : (PySem.W.clsIn K S).isSome = true := h2
  show (if (PySem.W.subIn K (.ref S) (.type "BaseException") == some true) = true then (if ((PySem.W.clsIn K S).isSome && PySem.W.typeIn K (.ref S) == some (.type "type")) = true then PySem.W.subIn K (.ref S) (.ref S) else none) else none) = some true
  rw [if_pos (by rw [h1]; rfl), if_pos (by rw [h2', h3]; rfl), h4]
/-- what is no time -/
inductive Oth (H : Hp) : V → Prop where
  | str (z : Str) : Oth H (.str z)
  | non : Oth H .non
  | lst {a : Addr} {xs : List V} (e : H a = some (.lst xs)) : Oth H (.ref a)
  | tup {a : Addr} {xs : List V} (e : H a = some (.tup xs)) : Oth H (.ref a)
theorem Oth.par {C : Addr} {H : Hp} {y : V} (h : Oth H y) : Par C H y := by
  cases h with
  | str z => exact .str z
  | non => exact .non
  | lst e => exact .lst e
  | tup e => exact .tup e
/-- x == y -/
def spEq2 (C : Addr) : Sp := fun vs H Q _ => ∃ (x y : V) (t b : Int), vs = [x, y] ∧ Mo C t b x H ∧ ((∃ t' b' : Int, Mo C t' b' y H ∧ ∀ (k : Bool) (H' : Hp), Ex H H' → (k = true ↔ t = t' ∧ b = b') → Q (.bl k) H') ∨
  (∃ i : Int, y = .int i ∧ ∀ (k : Bool) (H' : Hp), Ex H H' → (k = true ↔ b = 1 ∧ t = i) → Q (.bl k) H') ∨ (Oth H y ∧ ∀ H', Ex H H' → Q (.bl false) H'))
/-- two lists of the same ints are equal -/
theorem op_eqL {X : Cx} {n : Nat} (hr : Room (n + 1) X.A) : OpR X (compareOp .Eq) (rEqG (DList DFlat)) := op_eqG (rcG_list mon_flat eqG_flat) (hr.mono (by omega))
theorem prs_ints : ∀ {H : Hp} (ns : List Int), Prs DFlat (ns.map V.int) (ns.map V.int) H
  | _, [] => .nil
  | _, n :: ns => .cons ⟨rfl, rfl, by simp [eqV]⟩ (prs_ints ns)
end Mo
namespace Mo
theorem iteB {c : Bool} {A B : Prop} (h : c = false) (hB : B) : if c = true then A else B := by
  subst h
  exact L2.iteF hB
theorem iteA {c : Bool} {A B : Prop} (h : c = true) (hA : A) : if c = true then A else B := by
  subst h
  exact L2.iteT hA
end Mo
namespace Mo
open PySem L2
open Evl (Ex)
/-- x < y and its like: what g says of the cross products -/
def spCmp (C : Addr) (g : Int → Int → Bool) : Sp := fun vs H Q _ => ∃ (x y : V) (t b t' b' : Int), vs = [x, y] ∧ Mo C t b x H ∧ Tm C t' b' y H ∧ Sm 1900 t ∧ Sm 1900 b ∧ Sm 1900 t' ∧ Sm 1900 b' ∧ ∀ H', Ex H H' → Q (.bl (g (t * b') (t' * b))) H'
def gLt (i j : Int) : Bool := decide (i < j)
def gLe (i j : Int) : Bool := decide (i ≤ j)
def gGt (i j : Int) : Bool := decide (j < i)
def gGe (i j : Int) : Bool := decide (j ≤ i)
/-- the two sides of a comparison: a moment first, or an int and a moment -/
def Two (C : Addr) (x : V) (t b : Int) (y : V) (t' b' : Int) (H : Hp) : Prop := (Mo C t b x H ∧ Tm C t' b' y H) ∨ ((x = .int t ∧ b = 1) ∧ Mo C t' b' y H)
theorem Two.ex {C : Addr} {x y : V} {t b t' b' : Int} {H H' : Hp} (h : Two C x t b y t' b' H) (e : Ex H H') : Two C x t b y t' b' H' := h.elim (fun h => .inl ⟨h.1.ex e, h.2.ex e⟩) fun h => .inr ⟨h.1, h.2.ex e⟩
/-- s: the sign of the first less the second -/
def spCompared (C : Addr) : Sp := fun vs H Q _ => ∃ (x y : V) (t b t' b' s : Int), vs = [x, y, .int s] ∧ Two C x t b y t' b' H ∧ Red t b ∧ Red t' b' ∧ Sm 1900 t ∧ Sm 1900 b ∧ Sm 1900 t' ∧ Sm 1900 b' ∧ (s < 0 ↔ t * b' < t' * b) ∧ (s = 0 ↔ t * b' = t' * b) ∧ ∀ H', Ex H H' → Q (.bl true) H'
theorem prs_flat : ∀ {H : Hp} {xs : List V}, (∀ x ∈ xs, flatV x = true ∧ eqV x x = true) → Prs DFlat xs xs H
  | _, [], _ => .nil
  | _, x :: xs, h => .cons ⟨(h x List.mem_cons_self).1, (h x List.mem_cons_self).1, (h x List.mem_cons_self).2⟩ (prs_flat fun y hy => h y (List.mem_cons_of_mem _ hy))
theorem red_one (i : Int) : Red i 1 := ⟨by decide, by unfold Int.gcd; simp⟩
/-- what a comparison by the own method, or by the int's side, hands on -/
theorem cmp_two {C : Addr} {x y : V} {t b t' b' : Int} {H : Hp} {g g' : Int → Int → Bool} {Q : VK} (h : Two C x t b y t' b' H) (st : Sm 1900 t) (sb : Sm 1900 b) (st' : Sm 1900 t') (sb' : Sm 1900 b') (hg : ∀ i j, g' i j = g j i)
    (k : ∀ H', Ex H H' → Q (.bl (g (t * b') (t' * b))) H') : rCmp C (spCmp C g) E0 x y H Q ∨ rCmpR C (spCmp C g') E0 x y H Q := by
  rcases h with ⟨h1, h2⟩ | ⟨⟨h1, h1'⟩, h2⟩
  · exact .inl ⟨h1.isC, h2.par, x, y, t, b, t', b', rfl, h1, h2, st, sb, st', sb', k⟩
  · refine .inr ⟨⟨t, h1⟩, h2.isC, y, x, t', b', t, b, rfl, h2, .inr ⟨h1, h1'⟩, st', sb', st, sb, fun H' e => ?_⟩
    rw [hg]
    exact k H' e
theorem eq_two {C : Addr} {x y : V} {t b t' b' : Int} {H : Hp} {Q : VK} (h : Two C x t b y t' b' H) (r : Red t b) (r' : Red t' b') (k : ∀ H', Ex H H' → Q (.bl (decide (t * b' = t' * b))) H') : rCmp C (spEq2 C) E0 x y H Q ∨ rCmpR C (spEq2 C) E0 x y H Q := by
  have fin : ∀ (c : Bool) (H' : Hp), Ex H H' → (c = true ↔ t * b' = t' * b) → Q (.bl c) H' := fun c H' e hc => by
    have q : c = decide (t * b' = t' * b) := Bool.eq_iff_iff.mpr (hc.trans (decide_eq_true_iff).symm)
    rw [q]
    exact k H' e
  rcases h with ⟨h1, h2 | ⟨h2, h2'⟩⟩ | ⟨⟨h1, h1'⟩, h2⟩
  · exact .inl ⟨h1.isC, h2.par, x, y, t, b, rfl, h1, .inl ⟨t', b', h2, fun c H' e hc => fin c H' e (hc.trans (red_iff r r'))⟩⟩
  · subst h2'
    refine .inl ⟨h1.isC, by rw [h2]; exact .int _, x, y, t, b, rfl, h1, .inr (.inl ⟨t', h2, fun c H' e hc => fin c H' e (hc.trans ?_)⟩)⟩
    rw [← red_iff r r']
    exact ⟨fun z => ⟨z.2, z.1⟩, fun z => ⟨z.2, z.1⟩⟩
  · subst h1'
    refine .inr ⟨⟨t, h1⟩, h2.isC, y, x, t', b', rfl, h2, .inr (.inl ⟨t, h1, fun c H' e hc => fin c H' e (hc.trans ?_)⟩)⟩
    rw [← red_iff r r']
    exact ⟨fun z => ⟨z.2.symm, z.1.symm⟩, fun z => ⟨z.2.symm, z.1.symm⟩⟩
theorem ne_two {C : Addr} {x y : V} {t b t' b' : Int} {H : Hp} {Q : VK} (h : Two C x t b y t' b' H) (r : Red t b) (r' : Red t' b') (k : ∀ H', Ex H H' → Q (.bl (!decide (t * b' = t' * b))) H') : rNeO C (spEq2 C) E0 x y H Q ∨ rNeOR C (spEq2 C) E0 x y H Q := by
  rcases eq_two (Q := fun v H' => ∃ c, v = .bl c ∧ Q (.bl (!c)) H') h r r' (fun H' e => ⟨_, rfl, k H' e⟩) with z | z
  · exact .inl z
  · exact .inr z
end Mo
namespace Mo
open PySem L2
open Evl (Ex)
/-- a value that is no list and no dict -/
inductive Plain (K : PySem.W.Frag) (H : Hp) : V → Prop where
  | int (i : Int) : Plain K H (.int i)
  | str (z : Str) : Plain K H (.str z)
  | ins {C a dx : Addr} {fs : List (Str × V)} (e : H a = some (.ins C dx fs)) (ty : ∀ {H' : Hp} {fs : List (Str × V)}, H' a = some (.ins C dx fs) → TyX K H' (.ref a) (.ref C))
      (l : PySem.W.kitOne K (.ref C) (.type "list") = some false) (d : PySem.W.kitOne K (.ref C) (.type "dict") = some false) : Plain K H (.ref a)
theorem Plain.ty {K : PySem.W.Frag} {H : Hp} {x : V} (h : Plain K H x) : ∃ t, TyX K H x t ∧ PySem.W.kitOne K t (.type "list") = some false ∧ PySem.W.kitOne K t (.type "dict") = some false := by
  cases h with
  | int i => exact ⟨_, .base (.int _), kit_ty (by decide +kernel), kit_ty (by decide +kernel)⟩
  | str z => exact ⟨_, .base (.str _), kit_ty (by decide +kernel), kit_ty (by decide +kernel)⟩
  | ins e ty l d => exact ⟨_, ty e, l, d⟩
theorem Plain.keep {K : PySem.W.Frag} {H H' : Hp} {x : V} (h : Plain K H x) (k : ∀ (q C dx : Addr) (fs : List (Str × V)), H q = some (.ins C dx fs) → H' q = some (.ins C dx fs)) : Plain K H' x := by
  cases h with
  | int i => exact .int i
  | str z => exact .str z
  | ins e ty l d => exact .ins (k _ _ _ _ e) ty l d
theorem Plain.ex {K : PySem.W.Frag} {H H' : Hp} {x : V} (h : Plain K H x) (e : Ex H H') : Plain K H' x := h.keep fun _ _ _ _ q => e _ _ q
/-- _kept(x) -/
def spKept (K : PySem.W.Frag) : Sp := fun vs H Q _ => ∃ x, vs = [x] ∧ Plain K H x ∧ Q x H
/-- what a store into an error leaves of the instances -/
theorem ins_st {H : Hp} {a dx C' : Addr} {u v : HO} (ha : H a = some (exo a C' none)) (hd : H dx = none) : ∀ (q C dx' : Addr) (fs : List (Str × V)), H q = some (.ins C dx' fs) → upd (upd H dx u) a v q = some (.ins C dx' fs) := fun q C d fs e => by
  rw [upd_ne (ne_of e ha (by intro z; cases z)), upd_ne (ne_of_none e hd)]
  exact e
end Mo

namespace Mo
open PySem L2
open Evl (Ex)
section
variable {X : Cx} {CX : CXT} {k : Nat} {fI C : Addr} {fd : FuncData} {ps : List Str} {sp : Sp} {x n : Str} {p pos : Pos} {e : Expr} {es : List Expr} {ta : TA} {te : TE} {dvs : List V} {ds : List Value}
/-- C(e, ..), an error class with its own __init__, as a value -/
def tMkV (C : Addr) (sp : Sp) (dvs : List V) (ta : TA) : TE := fun σ H Q => ta σ H fun vs H1 => vs.length ≤ 1000 ∧ ∀ a, H1 a = none → sp (.ref a :: (vs ++ dvs)) (upd H1 a (exo a C none)) (fun v H2 => v = .non ∧ Q (.ref a) H2) (fun _ _ _ => False)
theorem pe_oexV (T : OexC X.K C) (iC : PySem.W.findIn X.K (.ref C) "__init__" = some (some (.ref fI))) (tI : PySem.W.typeIn X.K (.ref fI) = some (.type "function"))
    (F1 : FnOk X.prog X.w X.K X.mg X.base CX k fI fd ps sp) (hr : Room (k + 1) X.A) (hb : Binds X.K fd ps ds) (hd : Vals dvs ds) (hx : Passes CX X (fun _ _ _ => False)) (hg : Gl X x) (hm : X.mg x = some (.ref C)) (ha : PA X (e :: es) ta)
    (hdb : (x == ("__debug__" : Str)) = false := by decide) (he : starEach (e :: es) X.env = (false, eval e X.env) :: starEach es X.env := by rfl) (hpl : (backTo pos (starEach es X.env)).any (·.1) = false := by rfl) :
    PE X (.Call (.Name x p) (e :: es) [] pos) (tMkV C sp dvs ta) := by
  refine ⟨fun pins s σ H Q I h => ?_⟩
  obtain ⟨nm, q, N, bs, bm, sn, sub, ab, col, dd, k0, k1, k2, k3, k5, hC, hbm⟩ := T.cls
  refine wpAny_Call_Name_kw (ld_glob I hg hm ?_ hdb)
  refine PySem.W.callWith_K (h₀ := X.base) I.ok.mod.kin T.kC (thn (ha.run pos pins s σ H _ I h) fun us s1 ⟨vs, H1, I1, r1, hz, q1⟩ => ⟨I1.kIn, ?_⟩) he hpl
  show wpAny _ _ (call (.ref C) us) _ _ _
  obtain ⟨hp, g, dr, tk, os⟩ := s1
  have hsz : hp.objs.size ≤ hp.objs.size + 1 := Nat.le_succ _
  have hn : H1 (hp.objs.size + 1) = none := I1.hok.fresh hsz
  have hq := q1 (hp.objs.size + 1) hn
  have kk : ∀ b o, hp.get? b = some o → ((hp.push (PySem.W.kdv_tup us)).push (PySem.HandSPX.excO C hp.objs.size)).get? b = some o := fun b o e => Heap.get?_push_of_some _ (Heap.get?_push_of_some _ e)
  have hget : ((hp.push (PySem.W.kdv_tup us)).push (PySem.HandSPX.excO C hp.objs.size)).get? (hp.objs.size + 1) = some (PySem.HandSPX.excO C hp.objs.size) := by heap_get
  have I2 : Inv X pins σ (upd H1 (hp.objs.size + 1) (exo (hp.objs.size + 1) C none)) ⟨(hp.push (PySem.W.kdv_tup us)).push (PySem.HandSPX.excO C hp.objs.size), g, dr, tk, os⟩ :=
    I1.laid (t' := tk) (a := hp.objs.size + 1) (o := exo (hp.objs.size + 1) C none) (h' := (hp.push (PySem.W.kdv_tup us)).push (PySem.HandSPX.excO C hp.objs.size)) kk hsz (exo_ok hget)
  have r2 : Vals (V.ref (hp.objs.size + 1) :: (vs ++ dvs)) (Value.ref (hp.objs.size + 1) :: (us ++ ds)) := .cons rfl (r1.append hd)
  have hl : (Value.ref (hp.objs.size + 1) :: us ++ ds).length = ps.length := by
    have e := r2.length
    rw [F1.len _ _ _ _ hq] at e
    exact e.symm
  have hus : us.length ≤ sizeLine := by
    rw [← Paired.length r1, sizeLine_eq]
    omega
  refine wpAny_call (PySem.HandSPX.call_own F.excBase_ValueError (fun Y => PySem.HandSPX.refsVE_contains Y bm hbm) (I1.kIn _ _ hC) (PySem.W.looks_findIn I1.kIn iC) (fun self => PySem.W.bind_fn I1.kIn self tI) hus
    (codeAny_mono (F1.run _ X.stack _ _ ⟨Value.ref (hp.objs.size + 1) :: us, []⟩ (Value.ref (hp.objs.size + 1) :: (us ++ ds)) _ _ (fun _ _ _ => False) (hr.make C us []) (I2.env0.make C us []) (hb _ (Value.ref (hp.objs.size + 1) :: us) I2.kIn hl) r2 hq) fun r s' hq' => ?_))
  cases r with
  | error er => exact hx pins σ _ _ er s' I2 hq'
  | ok fl =>
    cases fl with
    | ret u =>
      obtain ⟨v, H', J, rv, ev, q3⟩ := I2.after hq'
      subst ev
      exact ⟨rv, V.ref (hp.objs.size + 1), H', J, rfl, q3⟩
    | next => exact False.elim hq'
    | brk => exact False.elim hq'
    | cont => exact False.elim hq'
/-- C(), an error class without its own __init__, as a value -/
theorem pe_exc0 {bmB : List Value} {B newId initId : String} (F : ExcBaseFacts B newId initId bmB) (q : PySem.W.excIn X.K C bmB newId = true) (gC : X.mg x = some (.ref C)) (kC : PySem.W.keepIn X.K (.ref C) = true) (hg : Gl X x)
    (hdb : (x == ("__debug__" : Str)) = false := by decide) :
    PE X (.Call (.Name x p) [] [] pos) (fun σ H Q => ∀ a, H a = none → Q (.ref a) (upd H a (ExO (.ref C) a))) := by
  refine ⟨fun pins s σ H Q I h => ?_⟩
  refine wpAny_Call_Name_kw (ld_glob I hg gC ?_ hdb)
  refine PySem.W.callWith_K0 (first := []) I.kIn kC ?_
  show wpAny _ _ (call (.ref C) []) _ _ _
  obtain ⟨bm, N, nm, qn, bs, hdct, sn, sub, ab, col, dd, k0, k1, k2, k3, k5, mN, hC, hN, hni, T⟩ := exc_obj I.kIn q
  obtain ⟨hp, g, dr, tk, os⟩ := s
  refine wpAny_call_exc_subT F T hC hN hni (fun h' a hm => ?_) (by show 0 ≤ sizeLine; omega)
  have hn : H a = none := I.hok.gone hm.new
  obtain ⟨t, ht, _, _⟩ := hm.there
  exact ⟨.ref a, upd H a (ExO (.ref C) a), I.laidN hm.keeps hm.new hn (exO_ok ht ⟨rfl, rfl⟩ rfl rfl rfl (show 4 < 6 by decide)), rfl, h a hn⟩
/-- e.f of such a value -/
def tExo (K : PySem.W.Frag) (f : Str) (te : TE) : TE := fun σ H Q => te σ H fun x H1 => ∃ (a C d : Addr) (fs : List (Str × V)) (v : V), x = .ref a ∧ XfC K C ∧ PySem.W.findIn K (.ref C) f = some none ∧ H1 a = some (exo a C (some d)) ∧ H1 d = some (exd d fs) ∧ fs.lookup f = some v ∧ Q v H1
theorem pe_exo {e : Expr} {te : TE} (he : PE X e te) (hb : attributeBase e n X.env (eval e X.env) = eval e X.env := by rfl) : PE X (.Attribute e n pos) (tExo X.K n te) := by
  refine ⟨fun pins s σ H Q I h => ?_⟩
  refine attr_of hb (thn (he.run pins s σ H _ I h) fun u s1 hh => ?_)
  obtain ⟨x, H1, I1, rx, a, C, d, fs, v, ex, T, hno, ea, ed, l, q⟩ := hh
  subst ex
  obtain rfl : u = Value.ref a := rx
  obtain ⟨t0, ha⟩ := exo_at I1.hok ea
  obtain ⟨mA, hns, hr⟩ := exd_at I1.hok ed
  obtain ⟨od, ho, hl⟩ := lookIn_ns hns
  obtain ⟨u, hu, ru⟩ := RelO.some_of (v := v) (o := mA n) (by rw [← l]; exact hr n)
  have J : PySem.W.InstAt s1.heap a _ C (some od) := ⟨ha, rfl, rfl, ho⟩
  exact HandSPX.exc_get I1.kIn J T.ga T.gg T.exC (PySem.W.findObj_own T.hdC hno rfl (by rw [hl, hu])) (handed_of ru) ⟨v, H1, I1.tok _, ru, q⟩
end
/-- an error object of the class at C -/
def IsX (C a : Addr) (H : Hp) : Prop := (∃ d fs, H a = some (exo a C (some d)) ∧ H d = some (exd d fs)) ∨ H a = some (ExO (.ref C) a)
theorem IsX.ex {C a : Addr} {H H' : Hp} (h : IsX C a H) (e : Ex H H') : IsX C a H' := by
  rcases h with ⟨d, fs, h1, h2⟩ | h
  · exact .inl ⟨d, fs, e _ _ h1, e _ _ h2⟩
  · exact .inr (e _ _ h)
/-- what isinstance asks of its class -/
structure XiC (K : PySem.W.Frag) (C : Addr) : Prop where
  cl : PySem.W.isClsIn K C = true
  ga : PySem.W.findIn K (.ref C) "__getattribute__" = some (some (.builtin "BaseException.__getattribute__"))
  gg : PySem.W.findIn K (.ref C) "__getattr__" = some none
  ex : PySem.W.subIn K (.ref C) (.type "BaseException") = some true
  cc : PySem.W.findIn K (.ref C) "__class__" = some (some (.builtin "object.__class__"))
  cg : PySem.W.specialIn K (.builtin "object.__class__") "__get__" = some (some (.builtin "getset_descriptor.__get__"))
  ct : PySem.W.takesIn K (.builtin "object.__class__") = some true
  mo : PySem.W.mroIn K C (.type "object") = some true
def rIsiE (K : PySem.W.Frag) : List V → Hp → VK → Prop := fun xs H Q => ∃ (a C : Addr) (c : V) (u : Value) (b : Bool), xs = [.ref a, c] ∧ ClsV c u ∧ XiC K C ∧ IsX C a H ∧ PySem.W.kitOne K (.ref C) u = some b ∧ Q (.bl b) H
theorem call_isiE {X : Cx} : CallR X (.builtin "isinstance") (rIsiE X.K) := by
  intro pins s σ H xs us Q I r h
  obtain ⟨a, C, c, u, b, rfl, k, T, hx, e, q⟩ := h
  obtain ⟨u1, u2, rfl, r1, r2⟩ := vals2 r
  have e2 := k.eq r2
  subst e2
  cases (show u1 = Value.ref a from r1)
  have J : ∃ ox od, PySem.W.InstAt s.heap a ox C od := by
    rcases hx with ⟨d, fs, ea, ed⟩ | ea
    · obtain ⟨t0, ha⟩ := exo_at I.hok ea
      obtain ⟨mA, hns, hr⟩ := exd_at I.hok ed
      obtain ⟨od, ho, hl⟩ := lookIn_ns hns
      exact ⟨_, some od, ha, rfl, rfl, ho⟩
    · obtain ⟨⟨oe, vs, ho, hz, hd, _⟩, _, _⟩ := I.hok a _ ea
      exact ⟨oe, none, ho, hz.1, by unfold PySem.W.notCls; rw [hd] <;> rfl, by rw [hz.2]; trivial⟩
  obtain ⟨ox, od, J⟩ := J
  exact PySem.W.kia_one (PySem.W.kitx_exc T.cl T.ga T.gg T.ex T.cc T.cg T.ct T.mo) I.kIn J e (fun z => nomatch z) fun tk => ⟨.bl b, H, I.tok tk, rfl, q⟩
end Mo

namespace Mo
open PySem L2
open Evl (Ex)
/-- an error class as the top has left it -/
structure EC (K : PySem.W.Frag) (CA : Addr) (nm : Str) (C : Addr) : Prop where
  x : ∃ q N bs sn sub ab col dd k0 k1 k2 k3 k5, K.lookup C = some (excClassObj nm q C N bs [.ref CA, .type "ValueError", .type "Exception", .type "BaseException", .type "object"] true sn sub ab col dd k0 k1 k2 k3 k5 "ValueError.__new__")
  sa : PySem.W.findIn K (.ref C) "__setattr__" = some (some (.builtin "object.__setattr__"))
  ga : PySem.W.findIn K (.ref C) "__getattribute__" = some (some (.builtin "BaseException.__getattribute__"))
  gg : PySem.W.findIn K (.ref C) "__getattr__" = some none
  cc : PySem.W.findIn K (.ref C) "__class__" = some (some (.builtin "object.__class__"))
  kp : PySem.W.keepIn K (.ref C) = true
section
variable {K : PySem.W.Frag} {CA C : Addr} {nm : Str}
theorem clsIn_of {a : Value} {b : Option Addr} {cd : ClassData} {sl : Array (Option Value)} (e : K.lookup C = some ⟨a, b, .cls cd, sl⟩) : PySem.W.clsIn K C = some cd := by
  unfold PySem.W.clsIn
  rw [e]
theorem EC.cls (h : EC K CA nm C) : ∃ cd, PySem.W.clsIn K C = some cd ∧ cd.mro = [.ref C, .ref CA, .type "ValueError", .type "Exception", .type "BaseException", .type "object"] ∧ cd.name = nm ∧ cd.hasDict = true := by
  obtain ⟨q, N, bs, sn, sub, ab, col, dd, k0, k1, k2, k3, k5, e⟩ := h.x
  exact ⟨_, clsIn_of e, rfl, rfl, rfl⟩
theorem EC.sub (h : EC K CA nm C) (v : Value) : PySem.W.subIn K (.ref C) v = some (([.ref C, .ref CA, .type "ValueError", .type "Exception", .type "BaseException", .type "object"] : List Value).contains v) := by
  obtain ⟨cd, e, m, _⟩ := h.cls
  show PySem.W.mroIn K C v = _
  unfold PySem.W.mroIn
  rw [e]
  show (if cd.mro.isEmpty = true then none else some (cd.mro.contains v)) = _
  rw [m]
  rfl
theorem EC.ty (h : EC K CA nm C) : PySem.W.typeIn K (.ref C) = some (.type "type") := by
  obtain ⟨q, N, bs, sn, sub, ab, col, dd, k0, k1, k2, k3, k5, e⟩ := h.x
  show (K.lookup C).map _ = _
  rw [e]
  rfl
theorem EC.ic (h : EC K CA nm C) : PySem.W.isClsIn K C = true := by
  obtain ⟨cd, e, _⟩ := h.cls
  show (PySem.W.clsIn K C).isSome = true
  rw [e]
  rfl
theorem EC.hd (h : EC K CA nm C) : PySem.W.hasDictIn K C = true := by
  obtain ⟨cd, e, _, _, d⟩ := h.cls
  show (PySem.W.clsIn K C).any _ = true
  rw [e]
  exact d
theorem cont_ty {C CA : Addr} {T : String} (h : (["ValueError", "Exception", "BaseException", "object"] : List String).contains T = true) : ([.ref C, .ref CA, .type "ValueError", .type "Exception", .type "BaseException", .type "object"] : List Value).contains (.type T) = true := by
  have h' : T ∈ (["ValueError", "Exception", "BaseException", "object"] : List String) := List.contains_iff_mem.mp h
  refine List.contains_iff_mem.mpr ?_
  simp only [List.mem_cons, List.not_mem_nil, or_false] at h'
  rcases h' with rfl | rfl | rfl | rfl <;> simp
theorem EC.subT (h : EC K CA nm C) {T : String} (hT : (["ValueError", "Exception", "BaseException", "object"] : List String).contains T = true) : PySem.W.subIn K (.ref C) (.type T) = some true := by
  rw [h.sub, cont_ty hT]
theorem EC.oex (h : EC K CA nm C) : OexC K C := by
  obtain ⟨q, N, bs, sn, sub, ab, col, dd, k0, k1, k2, k3, k5, e⟩ := h.x
  exact ⟨⟨_, _, _, _, _, _, _, _, _, _, _, _, _, _, _, e, rfl⟩, h.sa, h.subT (by decide), h.ty, h.kp⟩
theorem EC.xf (h : EC K CA nm C) : XfC K C := ⟨h.ga, h.gg, h.subT (by decide), h.hd⟩
theorem EC.xi (h : EC K CA nm C) (cg : PySem.W.specialIn K (.builtin "object.__class__") "__get__" = some (some (.builtin "getset_descriptor.__get__"))) (ct : PySem.W.takesIn K (.builtin "object.__class__") = some true) : XiC K C :=
  ⟨h.ic, h.ga, h.gg, h.subT (by decide), h.cc, cg, ct, h.subT (T := "object") (by decide)⟩
theorem EC.kitT (h : EC K CA nm C) {T : String} (hT : (["ValueError", "Exception", "BaseException", "object"] : List String).contains T = true) (hm : PySem.W.kitMeta T = true := by decide +kernel) : PySem.W.kitOne K (.ref C) (.type T) = some true := kit_ct (h.subT hT) hm
theorem kit_rr {C D : Addr} {b : Bool} (hne : C ≠ D) (hc : PySem.W.isClsIn K D = true) (ht : PySem.W.typeIn K (.ref D) = some (.type "type")) (h : PySem.W.subIn K (.ref C) (.ref D) = some b) : PySem.W.kitOne K (.ref C) (.ref D) = some b := by
  unfold PySem.W.kitOne
  rw [if_neg (by intro z; exact hne (Value.ref.inj (beq_iff_eq.mp z)))]
  have h2 : (PySem.W.clsIn K D).isSome = true := hc
  show (if ((PySem.W.clsIn K D).isSome && PySem.W.typeIn K (.ref D) == some (.type "type")) = true then PySem.W.subIn K (.ref C) (.ref D) else none) = some b
  rw [if_pos (by rw [h2, ht]; rfl), h]
theorem EC.kitA (h : EC K CA nm C) (ic : PySem.W.isClsIn K CA = true) (ty : PySem.W.typeIn K (.ref CA) = some (.type "type")) : PySem.W.kitOne K (.ref C) (.ref CA) = some true := by
  by_cases e : C = CA
  · subst e
    exact kit_self
  · refine kit_rr e ic ty ?_
    rw [h.sub]
    congr 1
    exact List.contains_iff_mem.mpr (by simp)
theorem EC.kitD {D : Addr} {nm' : Str} (h : EC K CA nm C) (h' : EC K CA nm' D) (ne : C ≠ D) (na : D ≠ CA) : PySem.W.kitOne K (.ref C) (.ref D) = some false := by
  refine kit_rr ne h'.ic h'.ty ?_
  rw [h.sub]
  congr 1
  refine Bool.eq_false_iff.mpr fun z => ?_
  have z := List.contains_iff_mem.mp z
  simp only [List.mem_cons, List.not_mem_nil, or_false] at z
  rcases z with z | z | z | z | z | z
  · exact ne (Value.ref.inj z).symm
  · exact na (Value.ref.inj z)
  all_goals cases z
theorem EC.ne {D : Addr} {nm' : Str} (h : EC K CA nm C) (h' : EC K CA nm' D) (n : nm ≠ nm') : C ≠ D := fun e => by
  subst e
  obtain ⟨cd, e1, _, e2, _⟩ := h.cls
  obtain ⟨cd', e1', _, e2', _⟩ := h'.cls
  rw [e1] at e1'
  cases e1'
  exact n (e2.symm.trans e2')
theorem EC.na (h : EC K CA nm C) {cd : ClassData} (e : PySem.W.clsIn K CA = some cd) (n : cd.name ≠ nm) : C ≠ CA := fun z => by
  subst z
  obtain ⟨cd', e1, _, e2, _⟩ := h.cls
  rw [e1] at e
  cases e
  exact n e2
end
/-- classes with their names -/
inductive ECs (K : PySem.W.Frag) (CA : Addr) : List Str → List Addr → Prop where
  | nil : ECs K CA [] []
  | cons {nm : Str} {C : Addr} {ns : List Str} {Cs : List Addr} (h : EC K CA nm C) (t : ECs K CA ns Cs) : ECs K CA (nm :: ns) (C :: Cs)
theorem ECs.get {K : PySem.W.Frag} {CA : Addr} : ∀ {ns : List Str} {Cs : List Addr} {i : Nat} {C : Addr}, ECs K CA ns Cs → Cs[i]? = some C → ∃ nm, ns[i]? = some nm ∧ EC K CA nm C
  | _, _, 0, _, .cons h t, e => by cases e; exact ⟨_, rfl, h⟩
  | _, _, i + 1, _, .cons h t, e => t.get e
/-- which class an error of the j-th class is one of -/
theorem ECs.kit {K : PySem.W.Frag} {CA : Addr} {ns : List Str} {Cs : List Addr} (h : ECs K CA ns Cs) (nd : ns.Nodup) {cd : ClassData} (e : PySem.W.clsIn K CA = some cd) (na : cd.name ∉ ns) {i j : Nat} {C D : Addr} (h1 : Cs[j]? = some C) (h2 : Cs[i]? = some D) :
    PySem.W.kitOne K (.ref C) (.ref D) = some (decide (i = j)) := by
  obtain ⟨n1, g1, E1⟩ := h.get h1
  obtain ⟨n2, g2, E2⟩ := h.get h2
  by_cases hij : i = j
  · subst hij
    rw [h1] at h2
    cases h2
    rw [decide_eq_true rfl]
    exact kit_self
  · rw [decide_eq_false hij]
    refine E1.kitD E2 (E1.ne E2 fun q => hij ?_) (E2.na e fun q => na (q ▸ List.mem_of_getElem? g2))
    subst q
    obtain ⟨l1, _⟩ := List.getElem?_eq_some_iff.mp g1
    exact ((List.getElem?_inj l1 nd).mp (g1.trans g2.symm)).symm
/-! promises of the __init__s -/
def Kp (a : Addr) (H H' : Hp) : Prop := ∀ q o, H q = some o → q ≠ a → H' q = some o
theorem kp_ex {a : Addr} {o : HO} {H H' : Hp} (n : H a = none) (k : Kp a (upd H a o) H') : Ex H H' := fun q u e => by
  have hq : q ≠ a := ne_of_none e n
  exact k q u (by rw [upd_ne hq]; exact e) hq
def spE1 (C : Addr) (f : Str) : Sp := fun vs H Q _ => ∃ (a : Addr) (x : Int), vs = [.ref a, .int x] ∧ H a = some (exo a C none) ∧ ∀ dx H', Kp a H H' → H' a = some (exo a C (some dx)) → H' dx = some (exd dx [(f, .int x)]) → Q .non H'
def spE1i (C : Addr) (f : Str) : Sp := fun vs H Q _ => ∃ (a : Addr) (x : Int), vs = [.ref a, .int x] ∧ H a = some (exo a C none) ∧ ∀ dx H', Kp a H H' → H' a = some (exo a C (some dx)) → H' dx = some (exd dx [(f, .int x)]) → Q .non H'
theorem new_at {H : Hp} {l : Addr} {o : HO} (_ : Ex H (upd H l o)) : upd H l o l = some o := upd_same
def spE2 (C : Addr) (f g : Str) : Sp := fun vs H Q _ => ∃ (a : Addr) (x y : Int), vs = [.ref a, .int x, .int y] ∧ H a = some (exo a C none) ∧ ∀ dx H', Kp a H H' → H' a = some (exo a C (some dx)) → H' dx = some (exd dx [(g, .int y), (f, .int x)]) → Q .non H'
def spE3 (C : Addr) (f g h : Str) : Sp := fun vs H Q _ => ∃ (a : Addr) (x y z : Int), vs = [.ref a, .int x, .int y, .int z] ∧ H a = some (exo a C none) ∧ ∀ dx H', Kp a H H' → H' a = some (exo a C (some dx)) → H' dx = some (exd dx [(h, .int z), (g, .int y), (f, .int x)]) → Q .non H'
theorem kp1 {a dx : Addr} {H : Hp} {u w : HO} (n : H dx = none) : Kp a H (upd (upd H dx u) a w) := fun q o e hq => by
  have h2 : q ≠ dx := ne_of_none e n
  rw [upd_ne hq, upd_ne h2]
  exact e
theorem kp2 {a dx : Addr} {H H' : Hp} {u : HO} (n : H dx = none) (k : Kp a H H') : Kp a H (upd H' dx u) := fun q o e hq => by
  rw [upd_ne (ne_of_none e n)]
  exact k q o e hq
theorem lk1 {f : Str} {x : V} : ([(f, x)] : List (Str × V)).lookup f = some x := by rw [lookup_put, if_pos rfl]
theorem lk2 {f g : Str} {x y : V} (h : ¬ f = g) : ([(g, y), (f, x)] : List (Str × V)).lookup f = some x := by rw [lookup_put, if_neg h, lk1]
theorem lkh {f : Str} {x : V} {l : List (Str × V)} : ((f, x) :: l).lookup f = some x := by rw [lookup_put, if_pos rfl]
theorem lkt {f g : Str} {x y : V} {l : List (Str × V)} (h : ¬ f = g) (e : l.lookup f = some x) : ((g, y) :: l).lookup f = some x := by rw [lookup_put, if_neg h, e]
/-! rows -/
def RowAt (C : Addr) (x : V) (H : Hp) : Prop := ∃ (tp e l1 l2 : Addr) (zs : List Int), x = .ref tp ∧ H tp = some (.tup [.ref e, .ref l1, .ref l2]) ∧ IsX C e H ∧ H l1 = some (.lst (zs.map V.int)) ∧ H l2 = some (.lst (zs.map V.int)) ∧ zs.length ≤ 3
theorem RowAt.ex {C : Addr} {x : V} {H H' : Hp} (h : RowAt C x H) (e : Ex H H') : RowAt C x H' := by
  obtain ⟨tp, a, l1, l2, zs, h0, h1, h2, h3, h4, h5⟩ := h
  exact ⟨tp, a, l1, l2, zs, h0, e _ _ h1, h2.ex e, e _ _ h3, e _ _ h4, h5⟩
theorem rowAt_mk {C tp e l1 l2 : Addr} {H : Hp} (zs : List Int) (h1 : H tp = some (.tup [.ref e, .ref l1, .ref l2])) (h2 : IsX C e H) (h3 : H l1 = some (.lst (zs.map V.int))) (h4 : H l2 = some (.lst (zs.map V.int))) (h5 : zs.length ≤ 3) : RowAt C (.ref tp) H := ⟨tp, e, l1, l2, zs, rfl, h1, h2, h3, h4, h5⟩
inductive Rows : List Addr → List V → Hp → Prop where
  | nil {H : Hp} : Rows [] [] H
  | cons {C : Addr} {x : V} {Cs : List Addr} {xs : List V} {H : Hp} (h : RowAt C x H) (t : Rows Cs xs H) : Rows (C :: Cs) (x :: xs) H
theorem Rows.ex : ∀ {Cs : List Addr} {xs : List V} {H H' : Hp}, Rows Cs xs H → Ex H H' → Rows Cs xs H'
  | _, _, _, _, .nil, _ => .nil
  | _, _, _, _, .cons h t, e => .cons (h.ex e) (t.ex e)
theorem Rows.len : ∀ {Cs : List Addr} {xs : List V} {H : Hp}, Rows Cs xs H → xs.length = Cs.length
  | _, _, _, .nil => rfl
  | _, _, _, .cons h t => by rw [List.length_cons, List.length_cons, t.len]
theorem Rows.app : ∀ {Cs Ds : List Addr} {xs ys : List V} {H : Hp}, Rows Cs xs H → Rows Ds ys H → Rows (Cs ++ Ds) (xs ++ ys) H
  | _, _, _, _, _, .nil, r => r
  | _, _, _, _, _, .cons h t, r => .cons h (t.app r)
theorem Rows.get : ∀ {Cs : List Addr} {xs : List V} {H : Hp} {i : Nat}, Rows Cs xs H → i < xs.length → ∃ C x, Cs[i]? = some C ∧ xs[i]? = some x ∧ RowAt C x H
  | _, _, _, 0, .cons h t, _ => ⟨_, _, rfl, rfl, h⟩
  | _, _, _, i + 1, .cons h t, l => t.get (i := i) (by simpa using l)
  | _, _, _, _, .nil, l => by cases l
def spPairs (Cs : List Addr) : Sp := fun vs H Q _ => ∃ a b c : Int, vs = [.int a, .int b, .int c] ∧ ∀ p xs H', Ex H H' → H' p = some (.lst xs) → Rows Cs xs H' → Q (.ref p) H'
def spSingles (Cs : List Addr) : Sp := fun vs H Q _ => ∃ a : Int, vs = [.int a] ∧ ∀ p xs H', Ex H H' → H' p = some (.lst xs) → Rows Cs xs H' → Q (.ref p) H'
def spKinds (K : PySem.W.Frag) (Cs : List Addr) : Sp := fun vs H Q _ => ∃ (e C : Addr) (b : Nat → Bool), vs = [.ref e] ∧ XiC K C ∧ IsX C e H ∧ (∀ i D, Cs[i]? = some D → PySem.W.kitOne K (.ref C) (.ref D) = some (b i)) ∧
  ∀ p H', Ex H H' → H' p = some (.lst ((List.range 22).map fun i => V.bl (b i))) → Q (.ref p) H'
/-! equal lists of ints are not unequal -/
def dInts (ns : List Int) : PyData := .list (ns.map .int)
theorem dp_all {K : PySem.W.Frag} {H : Hp} : ∀ ns : List Int, DpAll K H (ns.map V.int) (ns.map PyData.int)
  | [] => .nil
  | n :: ns => .cons (.int n) (dp_all ns)
theorem dp_ints {K : PySem.W.Frag} {H : Hp} {a : Addr} {ns : List Int} (h : H a = some (.lst (ns.map V.int))) : Dp K H (.ref a) (dInts ns) := .lst (SqL.of h) (dp_all ns)
theorem shaped_ints : ∀ {ns : List Int}, ns.length ≤ 3 → SeqAt.shaped (dInts ns) = true
  | [], _ => rfl
  | [_], _ => rfl
  | [_, _], _ => rfl
  | [_, _, _], _ => rfl
  | _ :: _ :: _ :: _ :: _, h => by simp at h
theorem eqv_all : ∀ ns : List Int, PyData.eqvAll (ns.map PyData.int) (ns.map PyData.int) = true
  | [] => by simp [PyData.eqvAll]
  | n :: ns => by
    rw [List.map_cons, PyData.eqvAll, eqv_all ns, PyData.eqv]
    simp
theorem eqv_ints (ns : List Int) : PyData.eqv (dInts ns) (dInts ns) = true := by
  unfold dInts
  rw [PyData.eqv, eqv_all]
end Mo

namespace Mo
open PySem L2
open Evl (Ex)
def top (i : Nat) : Stmt := PySem.Challenge.pw_anytune_k01_errors.main.body.getD i (.Pass ⟨0, 0, 0, 0⟩)
structure Txt (K : PySem.W.Frag) (mg : Str → Option Value) : Prop where
  len : mg "len" = none
  int : mg "int" = none
  isi : mg "isinstance" = none
  range : mg "range" = none
  lst : mg "list" = none
  dct : mg "dict" = none
  ve : mg "ValueError" = none
  cg : PySem.W.specialIn K (.builtin "object.__class__") "__get__" = some (some (.builtin "getset_descriptor.__get__"))
  ct : PySem.W.takesIn K (.builtin "object.__class__") = some true
structure Ini (P : Program) (w : World) (K : PySem.W.Frag) (mg : Str → Option Value) (base : Heap) (x : Str) (C f : Addr) (fd : FuncData) (ps : List Str) (sp : Sp) : Prop where
  F : FnOk P w K mg base CX0 2 f fd ps sp
  iC : PySem.W.findIn K (.ref C) "__init__" = some (some (.ref f))
  tI : PySem.W.typeIn K (.ref f) = some (.type "function")
  b : Binds K fd ps []
section
variable {P : Program} {w : World} {K : PySem.W.Frag} {mg : Str → Option Value} {base : Heap} {C CA : Addr}
abbrev sCe : Stmt := top 26
theorem scCe : FnScope ["_law_script", "_law_k"] ["_law_script", "_law_k"] (defScope sCe) := ⟨rfl, rfl, rfl, by decide +kernel, rfl, by decide +kernel, by decide +kernel⟩
theorem ok_cell {f : Addr} {fd : FuncData} (F : Fun K "_law_cell" "_law_cell" sCe f fd) (T : Txt K mg) : FnOk P w K mg base CX0 1 f fd ["_law_script", "_law_k"] (spCell K) := by
  refine F.ok scCe (fun vs H Q E h => ?_) (fun cdv A outer s H vs Q E hr h => ?_)
  · obtain ⟨l, ns, j, rfl, _⟩ := h
    rfl
  · obtain ⟨l, ns, j, rfl, hS, h0, hl, k⟩ := h
    refine ⟨_, (pss_cons (ps_if (pt_cmpR op_lt (pv 1) (pe_callB call_len rfl T.len PySem.boot_len (pa_cons (pv 0) pa_nil)) (nomark _)) (pss_one (ps_ret (pe_ix ix_list (pv 0) (pv 1) (fun _ _ => rfl)))) pss_nil)
 (pss_one (ps_ret pe_int))), ?_⟩
    refine ⟨_, rfl, _, rfl, _, _, rfl, .inl ⟨_, hS, rfl⟩, _, _, rfl, rfl, _, rfl, ?_⟩
    refine ite2 (fun hc => ?_) (fun hc => k 0)
    have hj : j < (ns.length : Int) := by
      have := of_decide_eq_true hc
      rw [List.length_map] at this
      exact this
    obtain ⟨i, rfl⟩ : ∃ i : Nat, j = (i : Int) := ⟨j.toNat, by omega⟩
    have hi : i < ns.length := by omega
    refine ⟨_, rfl, _, rfl, l, _, _, .int ns[i], rfl, rfl, hS, atI_nat (by rw [List.getElem?_map, List.getElem?_eq_getElem hi]; rfl), k _⟩
abbrev sKp : Stmt := top 1
theorem scKp : FnScope ["value", "part", "key"] ["value"] (defScope sKp) := ⟨rfl, rfl, rfl, by decide +kernel, rfl, by decide +kernel, by decide +kernel⟩
theorem ok_kept {f : Addr} {fd : FuncData} (F : Fun K "_kept" "_kept" sKp f fd) (T : Txt K mg) : FnOk P w K mg base CX0 1 f fd ["value"] (spKept K) := by
  refine F.ok scKp (fun vs H Q E h => ?_) (fun cdv A outer s H vs Q E hr h => ?_)
  · obtain ⟨x, rfl, _⟩ := h
    rfl
  · obtain ⟨x, rfl, px, k⟩ := h
    obtain ⟨t, ty, l, d⟩ := px.ty
    refine ⟨_, (pss_cons (ps_if (pt_val (pe_callB (r := rIsi K) call_isi rfl T.isi PyProof.Rows.boot_isinstance (pa_cons (pv 0) (pa_cons (pe_bltn (v := .ty "list") rfl T.lst PyProof.Rows.boot_list rfl) pa_nil)))) (pss_one ps_never) pss_nil)
 (pss_cons (ps_if (pt_val (pe_callB (r := rIsi K) call_isi rfl T.isi PyProof.Rows.boot_isinstance (pa_cons (pv 0) (pa_cons (pe_bltn (v := .ty "dict") rfl T.dct PyProof.Rows.boot_dict rfl) pa_nil)))) (pss_one ps_never) pss_nil)
 (pss_one (ps_ret (pv 0))))), ?_⟩
    exact ⟨_, rfl, _, _, _, _, false, rfl, .ty "list", ty, l, false, rfl, iteF ⟨_, rfl, _, _, _, _, false, rfl, .ty "dict", ty, d, false, rfl, iteF ⟨_, rfl, k⟩⟩⟩

abbrev s0 : Stmt := inClass (top 3) 0
theorem sc0 : FnScope ["self", "top", "bottom"] ["self", "top", "bottom"] (defScope s0) := ⟨rfl, rfl, rfl, by decide +kernel, rfl, by decide +kernel, by decide +kernel⟩
theorem ok_i0 {f : Addr} {fd : FuncData} (F : Fun K "__init__" "NoMoment.__init__" s0 f fd) (T : Txt K mg) (E1 : EC K CA "NoMoment" C) (n0 : PySem.W.findIn K (.ref C) "top" = some none) (n1 : PySem.W.findIn K (.ref C) "bottom" = some none) (OK : Ok P w K mg base CX0 1 "_kept" ["value"] (spKept K)) : FnOk P w K mg base CX0 2 f fd ["self", "top", "bottom"] (spE2 C "top" "bottom") := by
  obtain ⟨fKp, fdKp, GKp, mKp, kKp, bKp⟩ := OK
  refine F.ok sc0 (fun vs H Q E h => ?_) (fun cdv A outer s H vs Q E hr h => ?_)
  · obtain ⟨a, x, y, rfl, _⟩ := h
    rfl
  · obtain ⟨a, x, y, rfl, ha, k⟩ := h
    refine ⟨_, (pss_cons (ps_ost (pv 0) (pe_call GKp (hr.mono (by decide)) rfl mKp kKp bKp .nil pass0 (pa_cons (pv 1) pa_nil)))
 (pss_one (ps_ost (pv 0) (pe_call GKp (hr.mono (by decide)) rfl mKp kKp bKp .nil pass0 (pa_cons (pv 2) pa_nil))))), ?_⟩
    refine ⟨_, rfl, _, rfl, .int x, _, rfl, a, C, rfl, E1.oex, n0, .inl ⟨ha, fun dx u1 u2 => ?_⟩⟩
    refine ⟨_, rfl, _, rfl, .int y, _, rfl, a, C, rfl, E1.oex, n1, .inr ⟨dx, _, upd_same, (by rw [upd_ne u2, upd_same]), (by show 1 ≤ 900; decide), ?_⟩⟩
    exact k dx _ (kp2 u1 (kp1 u1)) (by rw [upd_ne u2.symm, upd_same]) upd_same
abbrev s1 : Stmt := inClass (top 5) 0
theorem sc1 : FnScope ["self", "tone", "begin", "end"] ["self", "tone", "begin", "end"] (defScope s1) := ⟨rfl, rfl, rfl, by decide +kernel, rfl, by decide +kernel, by decide +kernel⟩
theorem ok_i1 {f : Addr} {fd : FuncData} (F : Fun K "__init__" "NoMark.__init__" s1 f fd) (T : Txt K mg) (E1 : EC K CA "NoMark" C) (n0 : PySem.W.findIn K (.ref C) "tone" = some none) (n1 : PySem.W.findIn K (.ref C) "begin" = some none) (n2 : PySem.W.findIn K (.ref C) "end" = some none) (OK : Ok P w K mg base CX0 1 "_kept" ["value"] (spKept K)) : FnOk P w K mg base CX0 2 f fd ["self", "tone", "begin", "end"] (spE3 C "tone" "begin" "end") := by
  obtain ⟨fKp, fdKp, GKp, mKp, kKp, bKp⟩ := OK
  refine F.ok sc1 (fun vs H Q E h => ?_) (fun cdv A outer s H vs Q E hr h => ?_)
  · obtain ⟨a, x, y, z, rfl, _⟩ := h
    rfl
  · obtain ⟨a, x, y, z, rfl, ha, k⟩ := h
    refine ⟨_, (pss_cons (ps_ost (pv 0) (pe_call GKp (hr.mono (by decide)) rfl mKp kKp bKp .nil pass0 (pa_cons (pv 1) pa_nil)))
 (pss_cons (ps_ost (pv 0) (pe_call GKp (hr.mono (by decide)) rfl mKp kKp bKp .nil pass0 (pa_cons (pv 2) pa_nil)))
 (pss_one (ps_ost (pv 0) (pe_call GKp (hr.mono (by decide)) rfl mKp kKp bKp .nil pass0 (pa_cons (pv 3) pa_nil)))))), ?_⟩
    refine ⟨_, rfl, _, rfl, .int x, _, rfl, a, C, rfl, E1.oex, n0, .inl ⟨ha, fun dx u1 u2 => ?_⟩⟩
    refine ⟨_, rfl, _, rfl, .int y, _, rfl, a, C, rfl, E1.oex, n1, .inr ⟨dx, _, upd_same, (by rw [upd_ne u2, upd_same]), (by show 1 ≤ 900; decide), ?_⟩⟩
    refine ⟨_, rfl, _, rfl, .int z, _, rfl, a, C, rfl, E1.oex, n2, .inr ⟨dx, _, (by rw [upd_ne u2.symm, upd_same]), upd_same, (by show 2 ≤ 900; decide), ?_⟩⟩
    exact k dx _ (kp2 u1 (kp2 u1 (kp1 u1))) (by rw [upd_ne u2.symm, upd_ne u2.symm, upd_same]) upd_same
abbrev s2 : Stmt := inClass (top 9) 0
theorem sc2 : FnScope ["self", "begin", "end", "rounds"] ["self", "begin", "end", "rounds"] (defScope s2) := ⟨rfl, rfl, rfl, by decide +kernel, rfl, by decide +kernel, by decide +kernel⟩
theorem ok_i2 {f : Addr} {fd : FuncData} (F : Fun K "__init__" "NoWindow.__init__" s2 f fd) (T : Txt K mg) (E1 : EC K CA "NoWindow" C) (n0 : PySem.W.findIn K (.ref C) "begin" = some none) (n1 : PySem.W.findIn K (.ref C) "end" = some none) (n2 : PySem.W.findIn K (.ref C) "rounds" = some none) (OK : Ok P w K mg base CX0 1 "_kept" ["value"] (spKept K)) : FnOk P w K mg base CX0 2 f fd ["self", "begin", "end", "rounds"] (spE3 C "begin" "end" "rounds") := by
  obtain ⟨fKp, fdKp, GKp, mKp, kKp, bKp⟩ := OK
  refine F.ok sc2 (fun vs H Q E h => ?_) (fun cdv A outer s H vs Q E hr h => ?_)
  · obtain ⟨a, x, y, z, rfl, _⟩ := h
    rfl
  · obtain ⟨a, x, y, z, rfl, ha, k⟩ := h
    refine ⟨_, (pss_cons (ps_ost (pv 0) (pe_call GKp (hr.mono (by decide)) rfl mKp kKp bKp .nil pass0 (pa_cons (pv 1) pa_nil)))
 (pss_cons (ps_ost (pv 0) (pe_call GKp (hr.mono (by decide)) rfl mKp kKp bKp .nil pass0 (pa_cons (pv 2) pa_nil)))
 (pss_one (ps_ost (pv 0) (pe_call GKp (hr.mono (by decide)) rfl mKp kKp bKp .nil pass0 (pa_cons (pv 3) pa_nil)))))), ?_⟩
    refine ⟨_, rfl, _, rfl, .int x, _, rfl, a, C, rfl, E1.oex, n0, .inl ⟨ha, fun dx u1 u2 => ?_⟩⟩
    refine ⟨_, rfl, _, rfl, .int y, _, rfl, a, C, rfl, E1.oex, n1, .inr ⟨dx, _, upd_same, (by rw [upd_ne u2, upd_same]), (by show 1 ≤ 900; decide), ?_⟩⟩
    refine ⟨_, rfl, _, rfl, .int z, _, rfl, a, C, rfl, E1.oex, n2, .inr ⟨dx, _, (by rw [upd_ne u2.symm, upd_same]), upd_same, (by show 2 ≤ 900; decide), ?_⟩⟩
    exact k dx _ (kp2 u1 (kp2 u1 (kp1 u1))) (by rw [upd_ne u2.symm, upd_ne u2.symm, upd_same]) upd_same
abbrev s3 : Stmt := inClass (top 15) 0
theorem sc3 : FnScope ["self", "hole", "speed"] ["self", "hole", "speed"] (defScope s3) := ⟨rfl, rfl, rfl, by decide +kernel, rfl, by decide +kernel, by decide +kernel⟩
theorem ok_i3 {f : Addr} {fd : FuncData} (F : Fun K "__init__" "NoPace.__init__" s3 f fd) (T : Txt K mg) (E1 : EC K CA "NoPace" C) (n0 : PySem.W.findIn K (.ref C) "hole" = some none) (n1 : PySem.W.findIn K (.ref C) "speed" = some none) (OK : Ok P w K mg base CX0 1 "_kept" ["value"] (spKept K)) : FnOk P w K mg base CX0 2 f fd ["self", "hole", "speed"] (spE2 C "hole" "speed") := by
  obtain ⟨fKp, fdKp, GKp, mKp, kKp, bKp⟩ := OK
  refine F.ok sc3 (fun vs H Q E h => ?_) (fun cdv A outer s H vs Q E hr h => ?_)
  · obtain ⟨a, x, y, rfl, _⟩ := h
    rfl
  · obtain ⟨a, x, y, rfl, ha, k⟩ := h
    refine ⟨_, (pss_cons (ps_ost (pv 0) (pe_call GKp (hr.mono (by decide)) rfl mKp kKp bKp .nil pass0 (pa_cons (pv 1) pa_nil)))
 (pss_one (ps_ost (pv 0) (pe_call GKp (hr.mono (by decide)) rfl mKp kKp bKp .nil pass0 (pa_cons (pv 2) pa_nil))))), ?_⟩
    refine ⟨_, rfl, _, rfl, .int x, _, rfl, a, C, rfl, E1.oex, n0, .inl ⟨ha, fun dx u1 u2 => ?_⟩⟩
    refine ⟨_, rfl, _, rfl, .int y, _, rfl, a, C, rfl, E1.oex, n1, .inr ⟨dx, _, upd_same, (by rw [upd_ne u2, upd_same]), (by show 1 ≤ 900; decide), ?_⟩⟩
    exact k dx _ (kp2 u1 (kp1 u1)) (by rw [upd_ne u2.symm, upd_same]) upd_same
abbrev s4 : Stmt := inClass (top 20) 0
theorem sc4 : FnScope ["self", "start", "stop"] ["self", "start", "stop"] (defScope s4) := ⟨rfl, rfl, rfl, by decide +kernel, rfl, by decide +kernel, by decide +kernel⟩
theorem ok_i4 {f : Addr} {fd : FuncData} (F : Fun K "__init__" "Lost.__init__" s4 f fd) (T : Txt K mg) (E1 : EC K CA "Lost" C) (n0 : PySem.W.findIn K (.ref C) "start" = some none) (n1 : PySem.W.findIn K (.ref C) "stop" = some none) (OK : Ok P w K mg base CX0 1 "_kept" ["value"] (spKept K)) : FnOk P w K mg base CX0 2 f fd ["self", "start", "stop"] (spE2 C "start" "stop") := by
  obtain ⟨fKp, fdKp, GKp, mKp, kKp, bKp⟩ := OK
  refine F.ok sc4 (fun vs H Q E h => ?_) (fun cdv A outer s H vs Q E hr h => ?_)
  · obtain ⟨a, x, y, rfl, _⟩ := h
    rfl
  · obtain ⟨a, x, y, rfl, ha, k⟩ := h
    refine ⟨_, (pss_cons (ps_ost (pv 0) (pe_call GKp (hr.mono (by decide)) rfl mKp kKp bKp .nil pass0 (pa_cons (pv 1) pa_nil)))
 (pss_one (ps_ost (pv 0) (pe_call GKp (hr.mono (by decide)) rfl mKp kKp bKp .nil pass0 (pa_cons (pv 2) pa_nil))))), ?_⟩
    refine ⟨_, rfl, _, rfl, .int x, _, rfl, a, C, rfl, E1.oex, n0, .inl ⟨ha, fun dx u1 u2 => ?_⟩⟩
    refine ⟨_, rfl, _, rfl, .int y, _, rfl, a, C, rfl, E1.oex, n1, .inr ⟨dx, _, upd_same, (by rw [upd_ne u2, upd_same]), (by show 1 ≤ 900; decide), ?_⟩⟩
    exact k dx _ (kp2 u1 (kp1 u1)) (by rw [upd_ne u2.symm, upd_same]) upd_same
abbrev s5 : Stmt := inClass (top 21) 0
theorem sc5 : FnScope ["self", "name", "hole"] ["self", "name", "hole"] (defScope s5) := ⟨rfl, rfl, rfl, by decide +kernel, rfl, by decide +kernel, by decide +kernel⟩
theorem ok_i5 {f : Addr} {fd : FuncData} (F : Fun K "__init__" "LooksAhead.__init__" s5 f fd) (T : Txt K mg) (E1 : EC K CA "LooksAhead" C) (n0 : PySem.W.findIn K (.ref C) "name" = some none) (n1 : PySem.W.findIn K (.ref C) "hole" = some none) (OK : Ok P w K mg base CX0 1 "_kept" ["value"] (spKept K)) : FnOk P w K mg base CX0 2 f fd ["self", "name", "hole"] (spE2 C "name" "hole") := by
  obtain ⟨fKp, fdKp, GKp, mKp, kKp, bKp⟩ := OK
  refine F.ok sc5 (fun vs H Q E h => ?_) (fun cdv A outer s H vs Q E hr h => ?_)
  · obtain ⟨a, x, y, rfl, _⟩ := h
    rfl
  · obtain ⟨a, x, y, rfl, ha, k⟩ := h
    refine ⟨_, (pss_cons (ps_ost (pv 0) (pe_call GKp (hr.mono (by decide)) rfl mKp kKp bKp .nil pass0 (pa_cons (pv 1) pa_nil)))
 (pss_one (ps_ost (pv 0) (pe_call GKp (hr.mono (by decide)) rfl mKp kKp bKp .nil pass0 (pa_cons (pv 2) pa_nil))))), ?_⟩
    refine ⟨_, rfl, _, rfl, .int x, _, rfl, a, C, rfl, E1.oex, n0, .inl ⟨ha, fun dx u1 u2 => ?_⟩⟩
    refine ⟨_, rfl, _, rfl, .int y, _, rfl, a, C, rfl, E1.oex, n1, .inr ⟨dx, _, upd_same, (by rw [upd_ne u2, upd_same]), (by show 1 ≤ 900; decide), ?_⟩⟩
    exact k dx _ (kp2 u1 (kp1 u1)) (by rw [upd_ne u2.symm, upd_same]) upd_same
abbrev s8 : Stmt := inClass (top 4) 0
theorem sc8 : FnScope ["self", "text"] ["self", "text"] (defScope s8) := ⟨rfl, rfl, rfl, by decide +kernel, rfl, by decide +kernel, by decide +kernel⟩
theorem ok_i8 {f : Addr} {fd : FuncData} (F : Fun K "__init__" "NoText.__init__" s8 f fd) (T : Txt K mg) (E1 : EC K CA "NoText" C) (n0 : PySem.W.findIn K (.ref C) "text" = some none) (OK : Ok P w K mg base CX0 1 "_kept" ["value"] (spKept K)) : FnOk P w K mg base CX0 2 f fd ["self", "text"] (spE1 C "text") := by
  obtain ⟨fKp, fdKp, GKp, mKp, kKp, bKp⟩ := OK
  refine F.ok sc8 (fun vs H Q E h => ?_) (fun cdv A outer s H vs Q E hr h => ?_)
  · obtain ⟨a, x, rfl, _⟩ := h
    rfl
  · obtain ⟨a, x, rfl, ha, k⟩ := h
    refine ⟨_, (pss_one (ps_ost (pv 0) (pe_call GKp (hr.mono (by decide)) rfl mKp kKp bKp .nil pass0 (pa_cons (pv 1) pa_nil)))), ?_⟩
    refine ⟨_, rfl, _, rfl, .int x, _, rfl, a, C, rfl, E1.oex, n0, .inl ⟨ha, fun dx u1 u2 => ?_⟩⟩
    exact k dx _ (kp1 u1) upd_same (by rw [upd_ne u2, upd_same])
abbrev s9 : Stmt := inClass (top 6) 0
theorem sc9 : FnScope ["self", "rounds"] ["self", "rounds"] (defScope s9) := ⟨rfl, rfl, rfl, by decide +kernel, rfl, by decide +kernel, by decide +kernel⟩
theorem ok_i9 {f : Addr} {fd : FuncData} (F : Fun K "__init__" "NoRounds.__init__" s9 f fd) (T : Txt K mg) (E1 : EC K CA "NoRounds" C) (n0 : PySem.W.findIn K (.ref C) "rounds" = some none) (OK : Ok P w K mg base CX0 1 "_kept" ["value"] (spKept K)) : FnOk P w K mg base CX0 2 f fd ["self", "rounds"] (spE1 C "rounds") := by
  obtain ⟨fKp, fdKp, GKp, mKp, kKp, bKp⟩ := OK
  refine F.ok sc9 (fun vs H Q E h => ?_) (fun cdv A outer s H vs Q E hr h => ?_)
  · obtain ⟨a, x, rfl, _⟩ := h
    rfl
  · obtain ⟨a, x, rfl, ha, k⟩ := h
    refine ⟨_, (pss_one (ps_ost (pv 0) (pe_call GKp (hr.mono (by decide)) rfl mKp kKp bKp .nil pass0 (pa_cons (pv 1) pa_nil)))), ?_⟩
    refine ⟨_, rfl, _, rfl, .int x, _, rfl, a, C, rfl, E1.oex, n0, .inl ⟨ha, fun dx u1 u2 => ?_⟩⟩
    exact k dx _ (kp1 u1) upd_same (by rw [upd_ne u2, upd_same])
abbrev s10 : Stmt := inClass (top 7) 0
theorem sc10 : FnScope ["self", "name"] ["self", "name"] (defScope s10) := ⟨rfl, rfl, rfl, by decide +kernel, rfl, by decide +kernel, by decide +kernel⟩
theorem ok_i10 {f : Addr} {fd : FuncData} (F : Fun K "__init__" "NoName.__init__" s10 f fd) (T : Txt K mg) (E1 : EC K CA "NoName" C) (n0 : PySem.W.findIn K (.ref C) "name" = some none) (OK : Ok P w K mg base CX0 1 "_kept" ["value"] (spKept K)) : FnOk P w K mg base CX0 2 f fd ["self", "name"] (spE1 C "name") := by
  obtain ⟨fKp, fdKp, GKp, mKp, kKp, bKp⟩ := OK
  refine F.ok sc10 (fun vs H Q E h => ?_) (fun cdv A outer s H vs Q E hr h => ?_)
  · obtain ⟨a, x, rfl, _⟩ := h
    rfl
  · obtain ⟨a, x, rfl, ha, k⟩ := h
    refine ⟨_, (pss_one (ps_ost (pv 0) (pe_call GKp (hr.mono (by decide)) rfl mKp kKp bKp .nil pass0 (pa_cons (pv 1) pa_nil)))), ?_⟩
    refine ⟨_, rfl, _, rfl, .int x, _, rfl, a, C, rfl, E1.oex, n0, .inl ⟨ha, fun dx u1 u2 => ?_⟩⟩
    exact k dx _ (kp1 u1) upd_same (by rw [upd_ne u2, upd_same])
abbrev s11 : Stmt := inClass (top 8) 0
theorem sc11 : FnScope ["self", "pace"] ["self", "pace"] (defScope s11) := ⟨rfl, rfl, rfl, by decide +kernel, rfl, by decide +kernel, by decide +kernel⟩
theorem ok_i11 {f : Addr} {fd : FuncData} (F : Fun K "__init__" "BadPace.__init__" s11 f fd) (T : Txt K mg) (E1 : EC K CA "BadPace" C) (n0 : PySem.W.findIn K (.ref C) "pace" = some none) (OK : Ok P w K mg base CX0 1 "_kept" ["value"] (spKept K)) : FnOk P w K mg base CX0 2 f fd ["self", "pace"] (spE1 C "pace") := by
  obtain ⟨fKp, fdKp, GKp, mKp, kKp, bKp⟩ := OK
  refine F.ok sc11 (fun vs H Q E h => ?_) (fun cdv A outer s H vs Q E hr h => ?_)
  · obtain ⟨a, x, rfl, _⟩ := h
    rfl
  · obtain ⟨a, x, rfl, ha, k⟩ := h
    refine ⟨_, (pss_one (ps_ost (pv 0) (pe_call GKp (hr.mono (by decide)) rfl mKp kKp bKp .nil pass0 (pa_cons (pv 1) pa_nil)))), ?_⟩
    refine ⟨_, rfl, _, rfl, .int x, _, rfl, a, C, rfl, E1.oex, n0, .inl ⟨ha, fun dx u1 u2 => ?_⟩⟩
    exact k dx _ (kp1 u1) upd_same (by rw [upd_ne u2, upd_same])
abbrev s12 : Stmt := inClass (top 10) 0
theorem sc12 : FnScope ["self", "step"] ["self", "step"] (defScope s12) := ⟨rfl, rfl, rfl, by decide +kernel, rfl, by decide +kernel, by decide +kernel⟩
theorem ok_i12 {f : Addr} {fd : FuncData} (F : Fun K "__init__" "NoStep.__init__" s12 f fd) (T : Txt K mg) (E1 : EC K CA "NoStep" C) (n0 : PySem.W.findIn K (.ref C) "step" = some none) (OK : Ok P w K mg base CX0 1 "_kept" ["value"] (spKept K)) : FnOk P w K mg base CX0 2 f fd ["self", "step"] (spE1 C "step") := by
  obtain ⟨fKp, fdKp, GKp, mKp, kKp, bKp⟩ := OK
  refine F.ok sc12 (fun vs H Q E h => ?_) (fun cdv A outer s H vs Q E hr h => ?_)
  · obtain ⟨a, x, rfl, _⟩ := h
    rfl
  · obtain ⟨a, x, rfl, ha, k⟩ := h
    refine ⟨_, (pss_one (ps_ost (pv 0) (pe_call GKp (hr.mono (by decide)) rfl mKp kKp bKp .nil pass0 (pa_cons (pv 1) pa_nil)))), ?_⟩
    refine ⟨_, rfl, _, rfl, .int x, _, rfl, a, C, rfl, E1.oex, n0, .inl ⟨ha, fun dx u1 u2 => ?_⟩⟩
    exact k dx _ (kp1 u1) upd_same (by rw [upd_ne u2, upd_same])
abbrev s13 : Stmt := inClass (top 12) 0
theorem sc13 : FnScope ["self", "name"] ["self", "name"] (defScope s13) := ⟨rfl, rfl, rfl, by decide +kernel, rfl, by decide +kernel, by decide +kernel⟩
theorem ok_i13 {f : Addr} {fd : FuncData} (F : Fun K "__init__" "Unfilled.__init__" s13 f fd) (T : Txt K mg) (E1 : EC K CA "Unfilled" C) (n0 : PySem.W.findIn K (.ref C) "name" = some none) (OK : Ok P w K mg base CX0 1 "_kept" ["value"] (spKept K)) : FnOk P w K mg base CX0 2 f fd ["self", "name"] (spE1 C "name") := by
  obtain ⟨fKp, fdKp, GKp, mKp, kKp, bKp⟩ := OK
  refine F.ok sc13 (fun vs H Q E h => ?_) (fun cdv A outer s H vs Q E hr h => ?_)
  · obtain ⟨a, x, rfl, _⟩ := h
    rfl
  · obtain ⟨a, x, rfl, ha, k⟩ := h
    refine ⟨_, (pss_one (ps_ost (pv 0) (pe_call GKp (hr.mono (by decide)) rfl mKp kKp bKp .nil pass0 (pa_cons (pv 1) pa_nil)))), ?_⟩
    refine ⟨_, rfl, _, rfl, .int x, _, rfl, a, C, rfl, E1.oex, n0, .inl ⟨ha, fun dx u1 u2 => ?_⟩⟩
    exact k dx _ (kp1 u1) upd_same (by rw [upd_ne u2, upd_same])
abbrev s14 : Stmt := inClass (top 13) 0
theorem sc14 : FnScope ["self", "line"] ["self", "line"] (defScope s14) := ⟨rfl, rfl, rfl, by decide +kernel, rfl, by decide +kernel, by decide +kernel⟩
theorem ok_i14 {f : Addr} {fd : FuncData} (F : Fun K "__init__" "NoChart.__init__" s14 f fd) (T : Txt K mg) (E1 : EC K CA "NoChart" C) (n0 : PySem.W.findIn K (.ref C) "line" = some none) (OK : Ok P w K mg base CX0 1 "_kept" ["value"] (spKept K)) : FnOk P w K mg base CX0 2 f fd ["self", "line"] (spE1 C "line") := by
  obtain ⟨fKp, fdKp, GKp, mKp, kKp, bKp⟩ := OK
  refine F.ok sc14 (fun vs H Q E h => ?_) (fun cdv A outer s H vs Q E hr h => ?_)
  · obtain ⟨a, x, rfl, _⟩ := h
    rfl
  · obtain ⟨a, x, rfl, ha, k⟩ := h
    refine ⟨_, (pss_one (ps_ost (pv 0) (pe_call GKp (hr.mono (by decide)) rfl mKp kKp bKp .nil pass0 (pa_cons (pv 1) pa_nil)))), ?_⟩
    refine ⟨_, rfl, _, rfl, .int x, _, rfl, a, C, rfl, E1.oex, n0, .inl ⟨ha, fun dx u1 u2 => ?_⟩⟩
    exact k dx _ (kp1 u1) upd_same (by rw [upd_ne u2, upd_same])
abbrev s15 : Stmt := inClass (top 16) 0
theorem sc15 : FnScope ["self", "least"] ["self", "least"] (defScope s15) := ⟨rfl, rfl, rfl, by decide +kernel, rfl, by decide +kernel, by decide +kernel⟩
theorem ok_i15 {f : Addr} {fd : FuncData} (F : Fun K "__init__" "TooSoon.__init__" s15 f fd) (T : Txt K mg) (E1 : EC K CA "TooSoon" C) (n0 : PySem.W.findIn K (.ref C) "least" = some none) (OK : Ok P w K mg base CX0 1 "_kept" ["value"] (spKept K)) : FnOk P w K mg base CX0 2 f fd ["self", "least"] (spE1 C "least") := by
  obtain ⟨fKp, fdKp, GKp, mKp, kKp, bKp⟩ := OK
  refine F.ok sc15 (fun vs H Q E h => ?_) (fun cdv A outer s H vs Q E hr h => ?_)
  · obtain ⟨a, x, rfl, _⟩ := h
    rfl
  · obtain ⟨a, x, rfl, ha, k⟩ := h
    refine ⟨_, (pss_one (ps_ost (pv 0) (pe_call GKp (hr.mono (by decide)) rfl mKp kKp bKp .nil pass0 (pa_cons (pv 1) pa_nil)))), ?_⟩
    refine ⟨_, rfl, _, rfl, .int x, _, rfl, a, C, rfl, E1.oex, n0, .inl ⟨ha, fun dx u1 u2 => ?_⟩⟩
    exact k dx _ (kp1 u1) upd_same (by rw [upd_ne u2, upd_same])
abbrev s16 : Stmt := inClass (top 17) 0
theorem sc16 : FnScope ["self", "until"] ["self", "until"] (defScope s16) := ⟨rfl, rfl, rfl, by decide +kernel, rfl, by decide +kernel, by decide +kernel⟩
theorem ok_i16 {f : Addr} {fd : FuncData} (F : Fun K "__init__" "NoStretch.__init__" s16 f fd) (T : Txt K mg) (E1 : EC K CA "NoStretch" C) (n0 : PySem.W.findIn K (.ref C) "until" = some none) (OK : Ok P w K mg base CX0 1 "_kept" ["value"] (spKept K)) : FnOk P w K mg base CX0 2 f fd ["self", "until"] (spE1 C "until") := by
  obtain ⟨fKp, fdKp, GKp, mKp, kKp, bKp⟩ := OK
  refine F.ok sc16 (fun vs H Q E h => ?_) (fun cdv A outer s H vs Q E hr h => ?_)
  · obtain ⟨a, x, rfl, _⟩ := h
    rfl
  · obtain ⟨a, x, rfl, ha, k⟩ := h
    refine ⟨_, (pss_one (ps_ost (pv 0) (pe_call GKp (hr.mono (by decide)) rfl mKp kKp bKp .nil pass0 (pa_cons (pv 1) pa_nil)))), ?_⟩
    refine ⟨_, rfl, _, rfl, .int x, _, rfl, a, C, rfl, E1.oex, n0, .inl ⟨ha, fun dx u1 u2 => ?_⟩⟩
    exact k dx _ (kp1 u1) upd_same (by rw [upd_ne u2, upd_same])
abbrev s17 : Stmt := inClass (top 18) 0
theorem sc17 : FnScope ["self", "name"] ["self", "name"] (defScope s17) := ⟨rfl, rfl, rfl, by decide +kernel, rfl, by decide +kernel, by decide +kernel⟩
theorem ok_i17 {f : Addr} {fd : FuncData} (F : Fun K "__init__" "OutOfWindow.__init__" s17 f fd) (T : Txt K mg) (E1 : EC K CA "OutOfWindow" C) (n0 : PySem.W.findIn K (.ref C) "name" = some none) (OK : Ok P w K mg base CX0 1 "_kept" ["value"] (spKept K)) : FnOk P w K mg base CX0 2 f fd ["self", "name"] (spE1 C "name") := by
  obtain ⟨fKp, fdKp, GKp, mKp, kKp, bKp⟩ := OK
  refine F.ok sc17 (fun vs H Q E h => ?_) (fun cdv A outer s H vs Q E hr h => ?_)
  · obtain ⟨a, x, rfl, _⟩ := h
    rfl
  · obtain ⟨a, x, rfl, ha, k⟩ := h
    refine ⟨_, (pss_one (ps_ost (pv 0) (pe_call GKp (hr.mono (by decide)) rfl mKp kKp bKp .nil pass0 (pa_cons (pv 1) pa_nil)))), ?_⟩
    refine ⟨_, rfl, _, rfl, .int x, _, rfl, a, C, rfl, E1.oex, n0, .inl ⟨ha, fun dx u1 u2 => ?_⟩⟩
    exact k dx _ (kp1 u1) upd_same (by rw [upd_ne u2, upd_same])
abbrev s18 : Stmt := inClass (top 19) 0
theorem sc18 : FnScope ["self", "begin"] ["self", "begin"] (defScope s18) := ⟨rfl, rfl, rfl, by decide +kernel, rfl, by decide +kernel, by decide +kernel⟩
theorem ok_i18 {f : Addr} {fd : FuncData} (F : Fun K "__init__" "NoMove.__init__" s18 f fd) (T : Txt K mg) (E1 : EC K CA "NoMove" C) (n0 : PySem.W.findIn K (.ref C) "begin" = some none) (OK : Ok P w K mg base CX0 1 "_kept" ["value"] (spKept K)) : FnOk P w K mg base CX0 2 f fd ["self", "begin"] (spE1 C "begin") := by
  obtain ⟨fKp, fdKp, GKp, mKp, kKp, bKp⟩ := OK
  refine F.ok sc18 (fun vs H Q E h => ?_) (fun cdv A outer s H vs Q E hr h => ?_)
  · obtain ⟨a, x, rfl, _⟩ := h
    rfl
  · obtain ⟨a, x, rfl, ha, k⟩ := h
    refine ⟨_, (pss_one (ps_ost (pv 0) (pe_call GKp (hr.mono (by decide)) rfl mKp kKp bKp .nil pass0 (pa_cons (pv 1) pa_nil)))), ?_⟩
    refine ⟨_, rfl, _, rfl, .int x, _, rfl, a, C, rfl, E1.oex, n0, .inl ⟨ha, fun dx u1 u2 => ?_⟩⟩
    exact k dx _ (kp1 u1) upd_same (by rw [upd_ne u2, upd_same])
abbrev s19 : Stmt := inClass (top 22) 0
theorem sc19 : FnScope ["self", "name"] ["self", "name"] (defScope s19) := ⟨rfl, rfl, rfl, by decide +kernel, rfl, by decide +kernel, by decide +kernel⟩
theorem ok_i19 {f : Addr} {fd : FuncData} (F : Fun K "__init__" "NoChannel.__init__" s19 f fd) (T : Txt K mg) (E1 : EC K CA "NoChannel" C) (n0 : PySem.W.findIn K (.ref C) "name" = some none) (OK : Ok P w K mg base CX0 1 "_kept" ["value"] (spKept K)) : FnOk P w K mg base CX0 2 f fd ["self", "name"] (spE1 C "name") := by
  obtain ⟨fKp, fdKp, GKp, mKp, kKp, bKp⟩ := OK
  refine F.ok sc19 (fun vs H Q E h => ?_) (fun cdv A outer s H vs Q E hr h => ?_)
  · obtain ⟨a, x, rfl, _⟩ := h
    rfl
  · obtain ⟨a, x, rfl, ha, k⟩ := h
    refine ⟨_, (pss_one (ps_ost (pv 0) (pe_call GKp (hr.mono (by decide)) rfl mKp kKp bKp .nil pass0 (pa_cons (pv 1) pa_nil)))), ?_⟩
    refine ⟨_, rfl, _, rfl, .int x, _, rfl, a, C, rfl, E1.oex, n0, .inl ⟨ha, fun dx u1 u2 => ?_⟩⟩
    exact k dx _ (kp1 u1) upd_same (by rw [upd_ne u2, upd_same])
abbrev s20 : Stmt := inClass (top 23) 0
theorem sc20 : FnScope ["self", "span"] ["self", "span"] (defScope s20) := ⟨rfl, rfl, rfl, by decide +kernel, rfl, by decide +kernel, by decide +kernel⟩
theorem ok_i20 {f : Addr} {fd : FuncData} (F : Fun K "__init__" "NoSpan.__init__" s20 f fd) (T : Txt K mg) (E1 : EC K CA "NoSpan" C) (n0 : PySem.W.findIn K (.ref C) "span" = some none) (OK : Ok P w K mg base CX0 1 "_kept" ["value"] (spKept K)) : FnOk P w K mg base CX0 2 f fd ["self", "span"] (spE1 C "span") := by
  obtain ⟨fKp, fdKp, GKp, mKp, kKp, bKp⟩ := OK
  refine F.ok sc20 (fun vs H Q E h => ?_) (fun cdv A outer s H vs Q E hr h => ?_)
  · obtain ⟨a, x, rfl, _⟩ := h
    rfl
  · obtain ⟨a, x, rfl, ha, k⟩ := h
    refine ⟨_, (pss_one (ps_ost (pv 0) (pe_call GKp (hr.mono (by decide)) rfl mKp kKp bKp .nil pass0 (pa_cons (pv 1) pa_nil)))), ?_⟩
    refine ⟨_, rfl, _, rfl, .int x, _, rfl, a, C, rfl, E1.oex, n0, .inl ⟨ha, fun dx u1 u2 => ?_⟩⟩
    exact k dx _ (kp1 u1) upd_same (by rw [upd_ne u2, upd_same])
abbrev s21 : Stmt := inClass (top 24) 0
theorem sc21 : FnScope ["self", "ring"] ["self", "ring"] (defScope s21) := ⟨rfl, rfl, rfl, by decide +kernel, rfl, by decide +kernel, by decide +kernel⟩
theorem ok_i21 {f : Addr} {fd : FuncData} (F : Fun K "__init__" "Ringed.__init__" s21 f fd) (T : Txt K mg) (E1 : EC K CA "Ringed" C) (n0 : PySem.W.findIn K (.ref C) "ring" = some none) (OK : Ok P w K mg base CX0 1 "_kept" ["value"] (spKept K)) : FnOk P w K mg base CX0 2 f fd ["self", "ring"] (spE1 C "ring") := by
  obtain ⟨fKp, fdKp, GKp, mKp, kKp, bKp⟩ := OK
  refine F.ok sc21 (fun vs H Q E h => ?_) (fun cdv A outer s H vs Q E hr h => ?_)
  · obtain ⟨a, x, rfl, _⟩ := h
    rfl
  · obtain ⟨a, x, rfl, ha, k⟩ := h
    refine ⟨_, (pss_one (ps_ost (pv 0) (pe_call GKp (hr.mono (by decide)) rfl mKp kKp bKp .nil pass0 (pa_cons (pv 1) pa_nil)))), ?_⟩
    refine ⟨_, rfl, _, rfl, .int x, _, rfl, a, C, rfl, E1.oex, n0, .inl ⟨ha, fun dx u1 u2 => ?_⟩⟩
    exact k dx _ (kp1 u1) upd_same (by rw [upd_ne u2, upd_same])
abbrev sPr : Stmt := top 27
theorem scPr : FnScope ["_law_a", "_law_b", "_law_c", "_law_moment", "_law_mark", "_law_window", "_law_pace", "_law_lost", "_law_early"] ["_law_a", "_law_b", "_law_c"] (defScope sPr) := ⟨rfl, rfl, rfl, by decide +kernel, rfl, by decide +kernel, by decide +kernel⟩
theorem ok_pairs {f : Addr} {fd : FuncData} {C0 C1 C2 C3 C4 C5 C6 C7 f0 f1 f2 f3 f4 f5 : Addr} {d0 d1 d2 d3 d4 d5 : FuncData} (F : Fun K "_law_pairs" "_law_pairs" sPr f fd) 
    (m0 : mg "NoMoment" = some (.ref C0)) (E0 : EC K CA "NoMoment" C0) (I0 : Ini P w K mg base "NoMoment" C0 f0 d0 ["self", "top", "bottom"] (spE2 C0 "top" "bottom")) (n0_0 : PySem.W.findIn K (.ref C0) "top" = some none) (n0_1 : PySem.W.findIn K (.ref C0) "bottom" = some none)
    (m1 : mg "NoMark" = some (.ref C1)) (E1 : EC K CA "NoMark" C1) (I1 : Ini P w K mg base "NoMark" C1 f1 d1 ["self", "tone", "begin", "end"] (spE3 C1 "tone" "begin" "end")) (n1_0 : PySem.W.findIn K (.ref C1) "tone" = some none) (n1_1 : PySem.W.findIn K (.ref C1) "begin" = some none) (n1_2 : PySem.W.findIn K (.ref C1) "end" = some none)
    (m2 : mg "NoWindow" = some (.ref C2)) (E2 : EC K CA "NoWindow" C2) (I2 : Ini P w K mg base "NoWindow" C2 f2 d2 ["self", "begin", "end", "rounds"] (spE3 C2 "begin" "end" "rounds")) (n2_0 : PySem.W.findIn K (.ref C2) "begin" = some none) (n2_1 : PySem.W.findIn K (.ref C2) "end" = some none) (n2_2 : PySem.W.findIn K (.ref C2) "rounds" = some none)
    (m3 : mg "NoPace" = some (.ref C3)) (E3 : EC K CA "NoPace" C3) (I3 : Ini P w K mg base "NoPace" C3 f3 d3 ["self", "hole", "speed"] (spE2 C3 "hole" "speed")) (n3_0 : PySem.W.findIn K (.ref C3) "hole" = some none) (n3_1 : PySem.W.findIn K (.ref C3) "speed" = some none)
    (m4 : mg "Lost" = some (.ref C4)) (E4 : EC K CA "Lost" C4) (I4 : Ini P w K mg base "Lost" C4 f4 d4 ["self", "start", "stop"] (spE2 C4 "start" "stop")) (n4_0 : PySem.W.findIn K (.ref C4) "start" = some none) (n4_1 : PySem.W.findIn K (.ref C4) "stop" = some none)
    (m5 : mg "LooksAhead" = some (.ref C5)) (E5 : EC K CA "LooksAhead" C5) (I5 : Ini P w K mg base "LooksAhead" C5 f5 d5 ["self", "name", "hole"] (spE2 C5 "name" "hole")) (n5_0 : PySem.W.findIn K (.ref C5) "name" = some none) (n5_1 : PySem.W.findIn K (.ref C5) "hole" = some none)
    (m6 : mg "NoTurns" = some (.ref C6)) (E6 : EC K CA "NoTurns" C6) (q6 : PySem.W.excIn K C6 [.type "ValueError", .type "Exception", .type "BaseException", .type "object"] "ValueError.__new__" = true)
    (m7 : mg "NotPlain" = some (.ref C7)) (E7 : EC K CA "NotPlain" C7) (q7 : PySem.W.excIn K C7 [.type "ValueError", .type "Exception", .type "BaseException", .type "object"] "ValueError.__new__" = true) :
    FnOk P w K mg base CX0 4 f fd ["_law_a", "_law_b", "_law_c"] (spPairs [C0, C1, C2, C3, C4, C5, C6, C7]) := by
  refine F.ok scPr (fun vs H Q E h => ?_) (fun cdv A outer s H vs Q E hr h => ?_)
  · obtain ⟨a, b, c, rfl, _⟩ := h
    rfl
  · obtain ⟨a, b, c, rfl, k⟩ := h
    refine ⟨_, (pss_cons (ps_set (i := 3) scPr.nd rfl (Or.inl rfl) (pe_oexV E0.oex I0.iC I0.tI I0.F (hr.mono (by decide)) I0.b .nil pass0 rfl m0 (pa_cons (pv 0) (pa_cons (pv 1) pa_nil))))
 (pss_cons (ps_set (i := 4) scPr.nd rfl (Or.inl rfl) (pe_oexV E1.oex I1.iC I1.tI I1.F (hr.mono (by decide)) I1.b .nil pass0 rfl m1 (pa_cons (pv 0) (pa_cons (pv 1) (pa_cons (pv 2) pa_nil)))))
 (pss_cons (ps_set (i := 5) scPr.nd rfl (Or.inl rfl) (pe_oexV E2.oex I2.iC I2.tI I2.F (hr.mono (by decide)) I2.b .nil pass0 rfl m2 (pa_cons (pv 0) (pa_cons (pv 1) (pa_cons (pv 2) pa_nil)))))
 (pss_cons (ps_set (i := 6) scPr.nd rfl (Or.inl rfl) (pe_oexV E3.oex I3.iC I3.tI I3.F (hr.mono (by decide)) I3.b .nil pass0 rfl m3 (pa_cons (pv 0) (pa_cons (pv 1) pa_nil))))
 (pss_cons (ps_set (i := 7) scPr.nd rfl (Or.inl rfl) (pe_oexV E4.oex I4.iC I4.tI I4.F (hr.mono (by decide)) I4.b .nil pass0 rfl m4 (pa_cons (pv 0) (pa_cons (pv 1) pa_nil))))
 (pss_cons (ps_set (i := 8) scPr.nd rfl (Or.inl rfl) (pe_oexV E5.oex I5.iC I5.tI I5.F (hr.mono (by decide)) I5.b .nil pass0 rfl m5 (pa_cons (pv 0) (pa_cons (pv 1) pa_nil))))
 (pss_one (ps_ret (pe_lst (pa_cons (pe_tup (pa_cons (pv 3) (pa_cons (pe_lst (pa_cons (pe_exo (pv 3)) (pa_cons (pe_exo (pv 3)) pa_nil))) (pa_cons (pe_lst (pa_cons (pv 0) (pa_cons (pv 1) pa_nil))) pa_nil)))) (pa_cons (pe_tup (pa_cons (pv 4) (pa_cons (pe_lst (pa_cons (pe_exo (pv 4)) (pa_cons (pe_exo (pv 4)) (pa_cons (pe_exo (pv 4)) pa_nil)))) (pa_cons (pe_lst (pa_cons (pv 0) (pa_cons (pv 1) (pa_cons (pv 2) pa_nil)))) pa_nil)))) (pa_cons (pe_tup (pa_cons (pv 5) (pa_cons (pe_lst (pa_cons (pe_exo (pv 5)) (pa_cons (pe_exo (pv 5)) (pa_cons (pe_exo (pv 5)) pa_nil)))) (pa_cons (pe_lst (pa_cons (pv 0) (pa_cons (pv 1) (pa_cons (pv 2) pa_nil)))) pa_nil)))) (pa_cons (pe_tup (pa_cons (pv 6) (pa_cons (pe_lst (pa_cons (pe_exo (pv 6)) (pa_cons (pe_exo (pv 6)) pa_nil))) (pa_cons (pe_lst (pa_cons (pv 0) (pa_cons (pv 1) pa_nil))) pa_nil)))) (pa_cons (pe_tup (pa_cons (pv 7) (pa_cons (pe_lst (pa_cons (pe_exo (pv 7)) (pa_cons (pe_exo (pv 7)) pa_nil))) (pa_cons (pe_lst (pa_cons (pv 0) (pa_cons (pv 1) pa_nil))) pa_nil)))) (pa_cons (pe_tup (pa_cons (pv 8) (pa_cons (pe_lst (pa_cons (pe_exo (pv 8)) (pa_cons (pe_exo (pv 8)) pa_nil))) (pa_cons (pe_lst (pa_cons (pv 0) (pa_cons (pv 1) pa_nil))) pa_nil)))) (pa_cons (pe_tup (pa_cons (pe_exc0 PySem.F.excBase_ValueError q6 m6 E6.kp rfl) (pa_cons (pe_lst pa_nil) (pa_cons (pe_lst pa_nil) pa_nil)))) (pa_cons (pe_tup (pa_cons (pe_exc0 PySem.F.excBase_ValueError q7 m7 E7.kp rfl) (pa_cons (pe_lst pa_nil) (pa_cons (pe_lst pa_nil) pa_nil)))) pa_nil))))))))))))))))), ?_⟩
    have EX : Ex H H := Ex.refl _
    refine ⟨_, rfl, _, rfl, (by show 2 ≤ 1000; decide), fun e0 nn => ⟨e0, _, _, rfl, upd_same, fun d0_ H0 kp x0 y0 => ⟨rfl, ?_⟩⟩⟩
    have ex := kp_ex nn kp
    have EX := EX.trans ex
    clear nn kp ex
    refine ⟨_, rfl, _, rfl, _, rfl, (by show 3 ≤ 1000; decide), fun e1 nn => ⟨e1, _, _, _, rfl, upd_same, fun d1_ H1 kp x1 y1 => ⟨rfl, ?_⟩⟩⟩
    have ex := kp_ex nn kp
    have EX := EX.trans ex
    have x0 := ex _ _ x0
    have y0 := ex _ _ y0
    clear nn kp ex
    refine ⟨_, rfl, _, rfl, _, rfl, (by show 3 ≤ 1000; decide), fun e2 nn => ⟨e2, _, _, _, rfl, upd_same, fun d2_ H2 kp x2 y2 => ⟨rfl, ?_⟩⟩⟩
    have ex := kp_ex nn kp
    have EX := EX.trans ex
    have x0 := ex _ _ x0
    have y0 := ex _ _ y0
    have x1 := ex _ _ x1
    have y1 := ex _ _ y1
    clear nn kp ex
    refine ⟨_, rfl, _, rfl, (by show 2 ≤ 1000; decide), fun e3 nn => ⟨e3, _, _, rfl, upd_same, fun d3_ H3 kp x3 y3 => ⟨rfl, ?_⟩⟩⟩
    have ex := kp_ex nn kp
    have EX := EX.trans ex
    have x0 := ex _ _ x0
    have y0 := ex _ _ y0
    have x1 := ex _ _ x1
    have y1 := ex _ _ y1
    have x2 := ex _ _ x2
    have y2 := ex _ _ y2
    clear nn kp ex
    refine ⟨_, rfl, _, rfl, (by show 2 ≤ 1000; decide), fun e4 nn => ⟨e4, _, _, rfl, upd_same, fun d4_ H4 kp x4 y4 => ⟨rfl, ?_⟩⟩⟩
    have ex := kp_ex nn kp
    have EX := EX.trans ex
    have x0 := ex _ _ x0
    have y0 := ex _ _ y0
    have x1 := ex _ _ x1
    have y1 := ex _ _ y1
    have x2 := ex _ _ x2
    have y2 := ex _ _ y2
    have x3 := ex _ _ x3
    have y3 := ex _ _ y3
    clear nn kp ex
    refine ⟨_, rfl, _, rfl, (by show 2 ≤ 1000; decide), fun e5 nn => ⟨e5, _, _, rfl, upd_same, fun d5_ H5 kp x5 y5 => ⟨rfl, ?_⟩⟩⟩
    have ex := kp_ex nn kp
    have EX := EX.trans ex
    have x0 := ex _ _ x0
    have y0 := ex _ _ y0
    have x1 := ex _ _ x1
    have y1 := ex _ _ y1
    have x2 := ex _ _ x2
    have y2 := ex _ _ y2
    have x3 := ex _ _ x3
    have y3 := ex _ _ y3
    have x4 := ex _ _ x4
    have y4 := ex _ _ y4
    clear nn kp ex
    refine ⟨_, rfl, _, rfl, e0, _, d0_, _, _, rfl, E0.xf, n0_0, x0, y0, (lkt (by decide +kernel) lkh), _, rfl, e0, _, d0_, _, _, rfl, E0.xf, n0_1, x0, y0, lkh, (by show 2 ≤ sizeLine; decide), fun l0 hl => ?_⟩
    have x := Ex.new (o := .lst [V.int (a), V.int (b)]) hl
    have EX := EX.trans x
    have x0 := x _ _ x0
    have y0 := x _ _ y0
    have x1 := x _ _ x1
    have y1 := x _ _ y1
    have x2 := x _ _ x2
    have y2 := x _ _ y2
    have x3 := x _ _ x3
    have y3 := x _ _ y3
    have x4 := x _ _ x4
    have y4 := x _ _ y4
    have x5 := x _ _ x5
    have y5 := x _ _ y5
    have p1 := new_at x
    clear x
    refine ⟨_, rfl, _, rfl, (by show 2 ≤ sizeLine; decide), fun k0 hk => ?_⟩
    have x := Ex.new (o := .lst [V.int (a), V.int (b)]) hk
    have EX := EX.trans x
    have x0 := x _ _ x0
    have y0 := x _ _ y0
    have x1 := x _ _ x1
    have y1 := x _ _ y1
    have x2 := x _ _ x2
    have y2 := x _ _ y2
    have x3 := x _ _ x3
    have y3 := x _ _ y3
    have x4 := x _ _ x4
    have y4 := x _ _ y4
    have x5 := x _ _ x5
    have y5 := x _ _ y5
    have p1 := x _ _ p1
    have p2 := new_at x
    clear x
    refine ⟨by show 3 ≤ sizeLine; decide, fun t0 ht => ?_⟩
    have x := Ex.new (o := .tup [V.ref e0, V.ref l0, V.ref k0]) ht
    have EX := EX.trans x
    have x0 := x _ _ x0
    have y0 := x _ _ y0
    have x1 := x _ _ x1
    have y1 := x _ _ y1
    have x2 := x _ _ x2
    have y2 := x _ _ y2
    have x3 := x _ _ x3
    have y3 := x _ _ y3
    have x4 := x _ _ x4
    have y4 := x _ _ y4
    have x5 := x _ _ x5
    have y5 := x _ _ y5
    have p1 := x _ _ p1
    have p2 := x _ _ p2
    have R0 := rowAt_mk [a, b] (new_at x) (show IsX C0 e0 _ from .inl ⟨d0_, _, x0, y0⟩) p1 p2 (show 2 ≤ 3 by decide)
    clear p1 p2 x
    refine ⟨_, rfl, _, rfl, e1, _, d1_, _, _, rfl, E1.xf, n1_0, x1, y1, (lkt (by decide +kernel) (lkt (by decide +kernel) lkh)), _, rfl, e1, _, d1_, _, _, rfl, E1.xf, n1_1, x1, y1, (lkt (by decide +kernel) lkh), _, rfl, e1, _, d1_, _, _, rfl, E1.xf, n1_2, x1, y1, lkh, (by show 3 ≤ sizeLine; decide), fun l1 hl => ?_⟩
    have x := Ex.new (o := .lst [V.int (a), V.int (b), V.int (c)]) hl
    have EX := EX.trans x
    have x0 := x _ _ x0
    have y0 := x _ _ y0
    have x1 := x _ _ x1
    have y1 := x _ _ y1
    have x2 := x _ _ x2
    have y2 := x _ _ y2
    have x3 := x _ _ x3
    have y3 := x _ _ y3
    have x4 := x _ _ x4
    have y4 := x _ _ y4
    have x5 := x _ _ x5
    have y5 := x _ _ y5
    have R0 := R0.ex x
    have p1 := new_at x
    clear x
    refine ⟨_, rfl, _, rfl, _, rfl, (by show 3 ≤ sizeLine; decide), fun k1 hk => ?_⟩
    have x := Ex.new (o := .lst [V.int (a), V.int (b), V.int (c)]) hk
    have EX := EX.trans x
    have x0 := x _ _ x0
    have y0 := x _ _ y0
    have x1 := x _ _ x1
    have y1 := x _ _ y1
    have x2 := x _ _ x2
    have y2 := x _ _ y2
    have x3 := x _ _ x3
    have y3 := x _ _ y3
    have x4 := x _ _ x4
    have y4 := x _ _ y4
    have x5 := x _ _ x5
    have y5 := x _ _ y5
    have R0 := R0.ex x
    have p1 := x _ _ p1
    have p2 := new_at x
    clear x
    refine ⟨by show 3 ≤ sizeLine; decide, fun t1 ht => ?_⟩
    have x := Ex.new (o := .tup [V.ref e1, V.ref l1, V.ref k1]) ht
    have EX := EX.trans x
    have x0 := x _ _ x0
    have y0 := x _ _ y0
    have x1 := x _ _ x1
    have y1 := x _ _ y1
    have x2 := x _ _ x2
    have y2 := x _ _ y2
    have x3 := x _ _ x3
    have y3 := x _ _ y3
    have x4 := x _ _ x4
    have y4 := x _ _ y4
    have x5 := x _ _ x5
    have y5 := x _ _ y5
    have R0 := R0.ex x
    have p1 := x _ _ p1
    have p2 := x _ _ p2
    have R1 := rowAt_mk [a, b, c] (new_at x) (show IsX C1 e1 _ from .inl ⟨d1_, _, x1, y1⟩) p1 p2 (show 3 ≤ 3 by decide)
    clear p1 p2 x
    refine ⟨_, rfl, _, rfl, e2, _, d2_, _, _, rfl, E2.xf, n2_0, x2, y2, (lkt (by decide +kernel) (lkt (by decide +kernel) lkh)), _, rfl, e2, _, d2_, _, _, rfl, E2.xf, n2_1, x2, y2, (lkt (by decide +kernel) lkh), _, rfl, e2, _, d2_, _, _, rfl, E2.xf, n2_2, x2, y2, lkh, (by show 3 ≤ sizeLine; decide), fun l2 hl => ?_⟩
    have x := Ex.new (o := .lst [V.int (a), V.int (b), V.int (c)]) hl
    have EX := EX.trans x
    have x0 := x _ _ x0
    have y0 := x _ _ y0
    have x1 := x _ _ x1
    have y1 := x _ _ y1
    have x2 := x _ _ x2
    have y2 := x _ _ y2
    have x3 := x _ _ x3
    have y3 := x _ _ y3
    have x4 := x _ _ x4
    have y4 := x _ _ y4
    have x5 := x _ _ x5
    have y5 := x _ _ y5
    have R0 := R0.ex x
    have R1 := R1.ex x
    have p1 := new_at x
    clear x
    refine ⟨_, rfl, _, rfl, _, rfl, (by show 3 ≤ sizeLine; decide), fun k2 hk => ?_⟩
    have x := Ex.new (o := .lst [V.int (a), V.int (b), V.int (c)]) hk
    have EX := EX.trans x
    have x0 := x _ _ x0
    have y0 := x _ _ y0
    have x1 := x _ _ x1
    have y1 := x _ _ y1
    have x2 := x _ _ x2
    have y2 := x _ _ y2
    have x3 := x _ _ x3
    have y3 := x _ _ y3
    have x4 := x _ _ x4
    have y4 := x _ _ y4
    have x5 := x _ _ x5
    have y5 := x _ _ y5
    have R0 := R0.ex x
    have R1 := R1.ex x
    have p1 := x _ _ p1
    have p2 := new_at x
    clear x
    refine ⟨by show 3 ≤ sizeLine; decide, fun t2 ht => ?_⟩
    have x := Ex.new (o := .tup [V.ref e2, V.ref l2, V.ref k2]) ht
    have EX := EX.trans x
    have x0 := x _ _ x0
    have y0 := x _ _ y0
    have x1 := x _ _ x1
    have y1 := x _ _ y1
    have x2 := x _ _ x2
    have y2 := x _ _ y2
    have x3 := x _ _ x3
    have y3 := x _ _ y3
    have x4 := x _ _ x4
    have y4 := x _ _ y4
    have x5 := x _ _ x5
    have y5 := x _ _ y5
    have R0 := R0.ex x
    have R1 := R1.ex x
    have p1 := x _ _ p1
    have p2 := x _ _ p2
    have R2 := rowAt_mk [a, b, c] (new_at x) (show IsX C2 e2 _ from .inl ⟨d2_, _, x2, y2⟩) p1 p2 (show 3 ≤ 3 by decide)
    clear p1 p2 x
    refine ⟨_, rfl, _, rfl, e3, _, d3_, _, _, rfl, E3.xf, n3_0, x3, y3, (lkt (by decide +kernel) lkh), _, rfl, e3, _, d3_, _, _, rfl, E3.xf, n3_1, x3, y3, lkh, (by show 2 ≤ sizeLine; decide), fun l3 hl => ?_⟩
    have x := Ex.new (o := .lst [V.int (a), V.int (b)]) hl
    have EX := EX.trans x
    have x0 := x _ _ x0
    have y0 := x _ _ y0
    have x1 := x _ _ x1
    have y1 := x _ _ y1
    have x2 := x _ _ x2
    have y2 := x _ _ y2
    have x3 := x _ _ x3
    have y3 := x _ _ y3
    have x4 := x _ _ x4
    have y4 := x _ _ y4
    have x5 := x _ _ x5
    have y5 := x _ _ y5
    have R0 := R0.ex x
    have R1 := R1.ex x
    have R2 := R2.ex x
    have p1 := new_at x
    clear x
    refine ⟨_, rfl, _, rfl, (by show 2 ≤ sizeLine; decide), fun k3 hk => ?_⟩
    have x := Ex.new (o := .lst [V.int (a), V.int (b)]) hk
    have EX := EX.trans x
    have x0 := x _ _ x0
    have y0 := x _ _ y0
    have x1 := x _ _ x1
    have y1 := x _ _ y1
    have x2 := x _ _ x2
    have y2 := x _ _ y2
    have x3 := x _ _ x3
    have y3 := x _ _ y3
    have x4 := x _ _ x4
    have y4 := x _ _ y4
    have x5 := x _ _ x5
    have y5 := x _ _ y5
    have R0 := R0.ex x
    have R1 := R1.ex x
    have R2 := R2.ex x
    have p1 := x _ _ p1
    have p2 := new_at x
    clear x
    refine ⟨by show 3 ≤ sizeLine; decide, fun t3 ht => ?_⟩
    have x := Ex.new (o := .tup [V.ref e3, V.ref l3, V.ref k3]) ht
    have EX := EX.trans x
    have x0 := x _ _ x0
    have y0 := x _ _ y0
    have x1 := x _ _ x1
    have y1 := x _ _ y1
    have x2 := x _ _ x2
    have y2 := x _ _ y2
    have x3 := x _ _ x3
    have y3 := x _ _ y3
    have x4 := x _ _ x4
    have y4 := x _ _ y4
    have x5 := x _ _ x5
    have y5 := x _ _ y5
    have R0 := R0.ex x
    have R1 := R1.ex x
    have R2 := R2.ex x
    have p1 := x _ _ p1
    have p2 := x _ _ p2
    have R3 := rowAt_mk [a, b] (new_at x) (show IsX C3 e3 _ from .inl ⟨d3_, _, x3, y3⟩) p1 p2 (show 2 ≤ 3 by decide)
    clear p1 p2 x
    refine ⟨_, rfl, _, rfl, e4, _, d4_, _, _, rfl, E4.xf, n4_0, x4, y4, (lkt (by decide +kernel) lkh), _, rfl, e4, _, d4_, _, _, rfl, E4.xf, n4_1, x4, y4, lkh, (by show 2 ≤ sizeLine; decide), fun l4 hl => ?_⟩
    have x := Ex.new (o := .lst [V.int (a), V.int (b)]) hl
    have EX := EX.trans x
    have x0 := x _ _ x0
    have y0 := x _ _ y0
    have x1 := x _ _ x1
    have y1 := x _ _ y1
    have x2 := x _ _ x2
    have y2 := x _ _ y2
    have x3 := x _ _ x3
    have y3 := x _ _ y3
    have x4 := x _ _ x4
    have y4 := x _ _ y4
    have x5 := x _ _ x5
    have y5 := x _ _ y5
    have R0 := R0.ex x
    have R1 := R1.ex x
    have R2 := R2.ex x
    have R3 := R3.ex x
    have p1 := new_at x
    clear x
    refine ⟨_, rfl, _, rfl, (by show 2 ≤ sizeLine; decide), fun k4 hk => ?_⟩
    have x := Ex.new (o := .lst [V.int (a), V.int (b)]) hk
    have EX := EX.trans x
    have x0 := x _ _ x0
    have y0 := x _ _ y0
    have x1 := x _ _ x1
    have y1 := x _ _ y1
    have x2 := x _ _ x2
    have y2 := x _ _ y2
    have x3 := x _ _ x3
    have y3 := x _ _ y3
    have x4 := x _ _ x4
    have y4 := x _ _ y4
    have x5 := x _ _ x5
    have y5 := x _ _ y5
    have R0 := R0.ex x
    have R1 := R1.ex x
    have R2 := R2.ex x
    have R3 := R3.ex x
    have p1 := x _ _ p1
    have p2 := new_at x
    clear x
    refine ⟨by show 3 ≤ sizeLine; decide, fun t4 ht => ?_⟩
    have x := Ex.new (o := .tup [V.ref e4, V.ref l4, V.ref k4]) ht
    have EX := EX.trans x
    have x0 := x _ _ x0
    have y0 := x _ _ y0
    have x1 := x _ _ x1
    have y1 := x _ _ y1
    have x2 := x _ _ x2
    have y2 := x _ _ y2
    have x3 := x _ _ x3
    have y3 := x _ _ y3
    have x4 := x _ _ x4
    have y4 := x _ _ y4
    have x5 := x _ _ x5
    have y5 := x _ _ y5
    have R0 := R0.ex x
    have R1 := R1.ex x
    have R2 := R2.ex x
    have R3 := R3.ex x
    have p1 := x _ _ p1
    have p2 := x _ _ p2
    have R4 := rowAt_mk [a, b] (new_at x) (show IsX C4 e4 _ from .inl ⟨d4_, _, x4, y4⟩) p1 p2 (show 2 ≤ 3 by decide)
    clear p1 p2 x
    refine ⟨_, rfl, _, rfl, e5, _, d5_, _, _, rfl, E5.xf, n5_0, x5, y5, (lkt (by decide +kernel) lkh), _, rfl, e5, _, d5_, _, _, rfl, E5.xf, n5_1, x5, y5, lkh, (by show 2 ≤ sizeLine; decide), fun l5 hl => ?_⟩
    have x := Ex.new (o := .lst [V.int (a), V.int (b)]) hl
    have EX := EX.trans x
    have x0 := x _ _ x0
    have y0 := x _ _ y0
    have x1 := x _ _ x1
    have y1 := x _ _ y1
    have x2 := x _ _ x2
    have y2 := x _ _ y2
    have x3 := x _ _ x3
    have y3 := x _ _ y3
    have x4 := x _ _ x4
    have y4 := x _ _ y4
    have x5 := x _ _ x5
    have y5 := x _ _ y5
    have R0 := R0.ex x
    have R1 := R1.ex x
    have R2 := R2.ex x
    have R3 := R3.ex x
    have R4 := R4.ex x
    have p1 := new_at x
    clear x
    refine ⟨_, rfl, _, rfl, (by show 2 ≤ sizeLine; decide), fun k5 hk => ?_⟩
    have x := Ex.new (o := .lst [V.int (a), V.int (b)]) hk
    have EX := EX.trans x
    have x0 := x _ _ x0
    have y0 := x _ _ y0
    have x1 := x _ _ x1
    have y1 := x _ _ y1
    have x2 := x _ _ x2
    have y2 := x _ _ y2
    have x3 := x _ _ x3
    have y3 := x _ _ y3
    have x4 := x _ _ x4
    have y4 := x _ _ y4
    have x5 := x _ _ x5
    have y5 := x _ _ y5
    have R0 := R0.ex x
    have R1 := R1.ex x
    have R2 := R2.ex x
    have R3 := R3.ex x
    have R4 := R4.ex x
    have p1 := x _ _ p1
    have p2 := new_at x
    clear x
    refine ⟨by show 3 ≤ sizeLine; decide, fun t5 ht => ?_⟩
    have x := Ex.new (o := .tup [V.ref e5, V.ref l5, V.ref k5]) ht
    have EX := EX.trans x
    have x0 := x _ _ x0
    have y0 := x _ _ y0
    have x1 := x _ _ x1
    have y1 := x _ _ y1
    have x2 := x _ _ x2
    have y2 := x _ _ y2
    have x3 := x _ _ x3
    have y3 := x _ _ y3
    have x4 := x _ _ x4
    have y4 := x _ _ y4
    have x5 := x _ _ x5
    have y5 := x _ _ y5
    have R0 := R0.ex x
    have R1 := R1.ex x
    have R2 := R2.ex x
    have R3 := R3.ex x
    have R4 := R4.ex x
    have p1 := x _ _ p1
    have p2 := x _ _ p2
    have R5 := rowAt_mk [a, b] (new_at x) (show IsX C5 e5 _ from .inl ⟨d5_, _, x5, y5⟩) p1 p2 (show 2 ≤ 3 by decide)
    clear p1 p2 x
    refine fun e6 nn => ?_
    have x := Ex.new (o := ExO (.ref C6) e6) nn
    have EX := EX.trans x
    have x0 := x _ _ x0
    have y0 := x _ _ y0
    have x1 := x _ _ x1
    have y1 := x _ _ y1
    have x2 := x _ _ x2
    have y2 := x _ _ y2
    have x3 := x _ _ x3
    have y3 := x _ _ y3
    have x4 := x _ _ x4
    have y4 := x _ _ y4
    have x5 := x _ _ x5
    have y5 := x _ _ y5
    have R0 := R0.ex x
    have R1 := R1.ex x
    have R2 := R2.ex x
    have R3 := R3.ex x
    have R4 := R4.ex x
    have R5 := R5.ex x
    have x6 := new_at x
    clear x
    refine ⟨by show 0 ≤ sizeLine; decide, fun l6 hl => ?_⟩
    have x := Ex.new (o := .lst []) hl
    have EX := EX.trans x
    have x0 := x _ _ x0
    have y0 := x _ _ y0
    have x1 := x _ _ x1
    have y1 := x _ _ y1
    have x2 := x _ _ x2
    have y2 := x _ _ y2
    have x3 := x _ _ x3
    have y3 := x _ _ y3
    have x4 := x _ _ x4
    have y4 := x _ _ y4
    have x5 := x _ _ x5
    have y5 := x _ _ y5
    have R0 := R0.ex x
    have R1 := R1.ex x
    have R2 := R2.ex x
    have R3 := R3.ex x
    have R4 := R4.ex x
    have R5 := R5.ex x
    have x6 := x _ _ x6
    have p1 := new_at x
    clear x
    refine ⟨(by show 0 ≤ sizeLine; decide), fun k6 hk => ?_⟩
    have x := Ex.new (o := .lst []) hk
    have EX := EX.trans x
    have x0 := x _ _ x0
    have y0 := x _ _ y0
    have x1 := x _ _ x1
    have y1 := x _ _ y1
    have x2 := x _ _ x2
    have y2 := x _ _ y2
    have x3 := x _ _ x3
    have y3 := x _ _ y3
    have x4 := x _ _ x4
    have y4 := x _ _ y4
    have x5 := x _ _ x5
    have y5 := x _ _ y5
    have R0 := R0.ex x
    have R1 := R1.ex x
    have R2 := R2.ex x
    have R3 := R3.ex x
    have R4 := R4.ex x
    have R5 := R5.ex x
    have x6 := x _ _ x6
    have p1 := x _ _ p1
    have p2 := new_at x
    clear x
    refine ⟨by show 3 ≤ sizeLine; decide, fun t6 ht => ?_⟩
    have x := Ex.new (o := .tup [V.ref e6, V.ref l6, V.ref k6]) ht
    have EX := EX.trans x
    have x0 := x _ _ x0
    have y0 := x _ _ y0
    have x1 := x _ _ x1
    have y1 := x _ _ y1
    have x2 := x _ _ x2
    have y2 := x _ _ y2
    have x3 := x _ _ x3
    have y3 := x _ _ y3
    have x4 := x _ _ x4
    have y4 := x _ _ y4
    have x5 := x _ _ x5
    have y5 := x _ _ y5
    have R0 := R0.ex x
    have R1 := R1.ex x
    have R2 := R2.ex x
    have R3 := R3.ex x
    have R4 := R4.ex x
    have R5 := R5.ex x
    have x6 := x _ _ x6
    have p1 := x _ _ p1
    have p2 := x _ _ p2
    have R6 := rowAt_mk [] (new_at x) (show IsX C6 e6 _ from .inr x6) p1 p2 (show 0 ≤ 3 by decide)
    clear p1 p2 x
    refine fun e7 nn => ?_
    have x := Ex.new (o := ExO (.ref C7) e7) nn
    have EX := EX.trans x
    have x0 := x _ _ x0
    have y0 := x _ _ y0
    have x1 := x _ _ x1
    have y1 := x _ _ y1
    have x2 := x _ _ x2
    have y2 := x _ _ y2
    have x3 := x _ _ x3
    have y3 := x _ _ y3
    have x4 := x _ _ x4
    have y4 := x _ _ y4
    have x5 := x _ _ x5
    have y5 := x _ _ y5
    have R0 := R0.ex x
    have R1 := R1.ex x
    have R2 := R2.ex x
    have R3 := R3.ex x
    have R4 := R4.ex x
    have R5 := R5.ex x
    have x6 := x _ _ x6
    have R6 := R6.ex x
    have x7 := new_at x
    clear x
    refine ⟨by show 0 ≤ sizeLine; decide, fun l7 hl => ?_⟩
    have x := Ex.new (o := .lst []) hl
    have EX := EX.trans x
    have x0 := x _ _ x0
    have y0 := x _ _ y0
    have x1 := x _ _ x1
    have y1 := x _ _ y1
    have x2 := x _ _ x2
    have y2 := x _ _ y2
    have x3 := x _ _ x3
    have y3 := x _ _ y3
    have x4 := x _ _ x4
    have y4 := x _ _ y4
    have x5 := x _ _ x5
    have y5 := x _ _ y5
    have R0 := R0.ex x
    have R1 := R1.ex x
    have R2 := R2.ex x
    have R3 := R3.ex x
    have R4 := R4.ex x
    have R5 := R5.ex x
    have x6 := x _ _ x6
    have R6 := R6.ex x
    have x7 := x _ _ x7
    have p1 := new_at x
    clear x
    refine ⟨(by show 0 ≤ sizeLine; decide), fun k7 hk => ?_⟩
    have x := Ex.new (o := .lst []) hk
    have EX := EX.trans x
    have x0 := x _ _ x0
    have y0 := x _ _ y0
    have x1 := x _ _ x1
    have y1 := x _ _ y1
    have x2 := x _ _ x2
    have y2 := x _ _ y2
    have x3 := x _ _ x3
    have y3 := x _ _ y3
    have x4 := x _ _ x4
    have y4 := x _ _ y4
    have x5 := x _ _ x5
    have y5 := x _ _ y5
    have R0 := R0.ex x
    have R1 := R1.ex x
    have R2 := R2.ex x
    have R3 := R3.ex x
    have R4 := R4.ex x
    have R5 := R5.ex x
    have x6 := x _ _ x6
    have R6 := R6.ex x
    have x7 := x _ _ x7
    have p1 := x _ _ p1
    have p2 := new_at x
    clear x
    refine ⟨by show 3 ≤ sizeLine; decide, fun t7 ht => ?_⟩
    have x := Ex.new (o := .tup [V.ref e7, V.ref l7, V.ref k7]) ht
    have EX := EX.trans x
    have x0 := x _ _ x0
    have y0 := x _ _ y0
    have x1 := x _ _ x1
    have y1 := x _ _ y1
    have x2 := x _ _ x2
    have y2 := x _ _ y2
    have x3 := x _ _ x3
    have y3 := x _ _ y3
    have x4 := x _ _ x4
    have y4 := x _ _ y4
    have x5 := x _ _ x5
    have y5 := x _ _ y5
    have R0 := R0.ex x
    have R1 := R1.ex x
    have R2 := R2.ex x
    have R3 := R3.ex x
    have R4 := R4.ex x
    have R5 := R5.ex x
    have x6 := x _ _ x6
    have R6 := R6.ex x
    have x7 := x _ _ x7
    have p1 := x _ _ p1
    have p2 := x _ _ p2
    have R7 := rowAt_mk [] (new_at x) (show IsX C7 e7 _ from .inr x7) p1 p2 (show 0 ≤ 3 by decide)
    clear p1 p2 x
    refine ⟨by show 8 ≤ sizeLine; decide, fun pp hp => ?_⟩
    have x := Ex.new (o := .lst [V.ref t0, V.ref t1, V.ref t2, V.ref t3, V.ref t4, V.ref t5, V.ref t6, V.ref t7]) hp
    have EX := EX.trans x
    have x0 := x _ _ x0
    have y0 := x _ _ y0
    have x1 := x _ _ x1
    have y1 := x _ _ y1
    have x2 := x _ _ x2
    have y2 := x _ _ y2
    have x3 := x _ _ x3
    have y3 := x _ _ y3
    have x4 := x _ _ x4
    have y4 := x _ _ y4
    have x5 := x _ _ x5
    have y5 := x _ _ y5
    have R0 := R0.ex x
    have R1 := R1.ex x
    have R2 := R2.ex x
    have R3 := R3.ex x
    have R4 := R4.ex x
    have R5 := R5.ex x
    have x6 := x _ _ x6
    have R6 := R6.ex x
    have x7 := x _ _ x7
    have R7 := R7.ex x
    exact k pp _ _ EX upd_same (.cons R0 (.cons R1 (.cons R2 (.cons R3 (.cons R4 (.cons R5 (.cons R6 (.cons R7 .nil))))))))
abbrev sSi : Stmt := top 28
theorem scSi : FnScope ["_law_a"] ["_law_a"] (defScope sSi) := ⟨rfl, rfl, rfl, by decide +kernel, rfl, by decide +kernel, by decide +kernel⟩
theorem ok_singles {f : Addr} {fd : FuncData} {C8 C9 C10 C11 C12 C13 C14 C15 C16 C17 C18 C19 C20 C21 f8 f9 f10 f11 f12 f13 f14 f15 f16 f17 f18 f19 f20 f21 : Addr} {d8 d9 d10 d11 d12 d13 d14 d15 d16 d17 d18 d19 d20 d21 : FuncData} (F : Fun K "_law_singles" "_law_singles" sSi f fd) 
    (m8 : mg "NoText" = some (.ref C8)) (E8 : EC K CA "NoText" C8) (I8 : Ini P w K mg base "NoText" C8 f8 d8 ["self", "text"] (spE1 C8 "text")) (n8_0 : PySem.W.findIn K (.ref C8) "text" = some none)
    (m9 : mg "NoRounds" = some (.ref C9)) (E9 : EC K CA "NoRounds" C9) (I9 : Ini P w K mg base "NoRounds" C9 f9 d9 ["self", "rounds"] (spE1 C9 "rounds")) (n9_0 : PySem.W.findIn K (.ref C9) "rounds" = some none)
    (m10 : mg "NoName" = some (.ref C10)) (E10 : EC K CA "NoName" C10) (I10 : Ini P w K mg base "NoName" C10 f10 d10 ["self", "name"] (spE1 C10 "name")) (n10_0 : PySem.W.findIn K (.ref C10) "name" = some none)
    (m11 : mg "BadPace" = some (.ref C11)) (E11 : EC K CA "BadPace" C11) (I11 : Ini P w K mg base "BadPace" C11 f11 d11 ["self", "pace"] (spE1 C11 "pace")) (n11_0 : PySem.W.findIn K (.ref C11) "pace" = some none)
    (m12 : mg "NoStep" = some (.ref C12)) (E12 : EC K CA "NoStep" C12) (I12 : Ini P w K mg base "NoStep" C12 f12 d12 ["self", "step"] (spE1 C12 "step")) (n12_0 : PySem.W.findIn K (.ref C12) "step" = some none)
    (m13 : mg "Unfilled" = some (.ref C13)) (E13 : EC K CA "Unfilled" C13) (I13 : Ini P w K mg base "Unfilled" C13 f13 d13 ["self", "name"] (spE1 C13 "name")) (n13_0 : PySem.W.findIn K (.ref C13) "name" = some none)
    (m14 : mg "NoChart" = some (.ref C14)) (E14 : EC K CA "NoChart" C14) (I14 : Ini P w K mg base "NoChart" C14 f14 d14 ["self", "line"] (spE1 C14 "line")) (n14_0 : PySem.W.findIn K (.ref C14) "line" = some none)
    (m15 : mg "TooSoon" = some (.ref C15)) (E15 : EC K CA "TooSoon" C15) (I15 : Ini P w K mg base "TooSoon" C15 f15 d15 ["self", "least"] (spE1 C15 "least")) (n15_0 : PySem.W.findIn K (.ref C15) "least" = some none)
    (m16 : mg "NoStretch" = some (.ref C16)) (E16 : EC K CA "NoStretch" C16) (I16 : Ini P w K mg base "NoStretch" C16 f16 d16 ["self", "until"] (spE1 C16 "until")) (n16_0 : PySem.W.findIn K (.ref C16) "until" = some none)
    (m17 : mg "OutOfWindow" = some (.ref C17)) (E17 : EC K CA "OutOfWindow" C17) (I17 : Ini P w K mg base "OutOfWindow" C17 f17 d17 ["self", "name"] (spE1 C17 "name")) (n17_0 : PySem.W.findIn K (.ref C17) "name" = some none)
    (m18 : mg "NoMove" = some (.ref C18)) (E18 : EC K CA "NoMove" C18) (I18 : Ini P w K mg base "NoMove" C18 f18 d18 ["self", "begin"] (spE1 C18 "begin")) (n18_0 : PySem.W.findIn K (.ref C18) "begin" = some none)
    (m19 : mg "NoChannel" = some (.ref C19)) (E19 : EC K CA "NoChannel" C19) (I19 : Ini P w K mg base "NoChannel" C19 f19 d19 ["self", "name"] (spE1 C19 "name")) (n19_0 : PySem.W.findIn K (.ref C19) "name" = some none)
    (m20 : mg "NoSpan" = some (.ref C20)) (E20 : EC K CA "NoSpan" C20) (I20 : Ini P w K mg base "NoSpan" C20 f20 d20 ["self", "span"] (spE1 C20 "span")) (n20_0 : PySem.W.findIn K (.ref C20) "span" = some none)
    (m21 : mg "Ringed" = some (.ref C21)) (E21 : EC K CA "Ringed" C21) (I21 : Ini P w K mg base "Ringed" C21 f21 d21 ["self", "ring"] (spE1 C21 "ring")) (n21_0 : PySem.W.findIn K (.ref C21) "ring" = some none) :
    FnOk P w K mg base CX0 4 f fd ["_law_a"] (spSingles [C8, C9, C10, C11, C12, C13, C14, C15, C16, C17, C18, C19, C20, C21]) := by
  refine F.ok scSi (fun vs H Q E h => ?_) (fun cdv A outer s H vs Q E hr h => ?_)
  · obtain ⟨a, rfl, _⟩ := h
    rfl
  · obtain ⟨a, rfl, k⟩ := h
    refine ⟨_, (pss_one (ps_ret (pe_lst (pa_cons (pe_tup (pa_cons (pe_oexV E8.oex I8.iC I8.tI I8.F (hr.mono (by decide)) I8.b .nil pass0 rfl m8 (pa_cons (pv 0) pa_nil)) (pa_cons (pe_lst (pa_cons (pe_exo (pe_oexV E8.oex I8.iC I8.tI I8.F (hr.mono (by decide)) I8.b .nil pass0 rfl m8 (pa_cons (pv 0) pa_nil))) pa_nil)) (pa_cons (pe_lst (pa_cons (pv 0) pa_nil)) pa_nil)))) (pa_cons (pe_tup (pa_cons (pe_oexV E9.oex I9.iC I9.tI I9.F (hr.mono (by decide)) I9.b .nil pass0 rfl m9 (pa_cons (pv 0) pa_nil)) (pa_cons (pe_lst (pa_cons (pe_exo (pe_oexV E9.oex I9.iC I9.tI I9.F (hr.mono (by decide)) I9.b .nil pass0 rfl m9 (pa_cons (pv 0) pa_nil))) pa_nil)) (pa_cons (pe_lst (pa_cons (pv 0) pa_nil)) pa_nil)))) (pa_cons (pe_tup (pa_cons (pe_oexV E10.oex I10.iC I10.tI I10.F (hr.mono (by decide)) I10.b .nil pass0 rfl m10 (pa_cons (pv 0) pa_nil)) (pa_cons (pe_lst (pa_cons (pe_exo (pe_oexV E10.oex I10.iC I10.tI I10.F (hr.mono (by decide)) I10.b .nil pass0 rfl m10 (pa_cons (pv 0) pa_nil))) pa_nil)) (pa_cons (pe_lst (pa_cons (pv 0) pa_nil)) pa_nil)))) (pa_cons (pe_tup (pa_cons (pe_oexV E11.oex I11.iC I11.tI I11.F (hr.mono (by decide)) I11.b .nil pass0 rfl m11 (pa_cons (pv 0) pa_nil)) (pa_cons (pe_lst (pa_cons (pe_exo (pe_oexV E11.oex I11.iC I11.tI I11.F (hr.mono (by decide)) I11.b .nil pass0 rfl m11 (pa_cons (pv 0) pa_nil))) pa_nil)) (pa_cons (pe_lst (pa_cons (pv 0) pa_nil)) pa_nil)))) (pa_cons (pe_tup (pa_cons (pe_oexV E12.oex I12.iC I12.tI I12.F (hr.mono (by decide)) I12.b .nil pass0 rfl m12 (pa_cons (pv 0) pa_nil)) (pa_cons (pe_lst (pa_cons (pe_exo (pe_oexV E12.oex I12.iC I12.tI I12.F (hr.mono (by decide)) I12.b .nil pass0 rfl m12 (pa_cons (pv 0) pa_nil))) pa_nil)) (pa_cons (pe_lst (pa_cons (pv 0) pa_nil)) pa_nil)))) (pa_cons (pe_tup (pa_cons (pe_oexV E13.oex I13.iC I13.tI I13.F (hr.mono (by decide)) I13.b .nil pass0 rfl m13 (pa_cons (pv 0) pa_nil)) (pa_cons (pe_lst (pa_cons (pe_exo (pe_oexV E13.oex I13.iC I13.tI I13.F (hr.mono (by decide)) I13.b .nil pass0 rfl m13 (pa_cons (pv 0) pa_nil))) pa_nil)) (pa_cons (pe_lst (pa_cons (pv 0) pa_nil)) pa_nil)))) (pa_cons (pe_tup (pa_cons (pe_oexV E14.oex I14.iC I14.tI I14.F (hr.mono (by decide)) I14.b .nil pass0 rfl m14 (pa_cons (pv 0) pa_nil)) (pa_cons (pe_lst (pa_cons (pe_exo (pe_oexV E14.oex I14.iC I14.tI I14.F (hr.mono (by decide)) I14.b .nil pass0 rfl m14 (pa_cons (pv 0) pa_nil))) pa_nil)) (pa_cons (pe_lst (pa_cons (pv 0) pa_nil)) pa_nil)))) (pa_cons (pe_tup (pa_cons (pe_oexV E15.oex I15.iC I15.tI I15.F (hr.mono (by decide)) I15.b .nil pass0 rfl m15 (pa_cons (pv 0) pa_nil)) (pa_cons (pe_lst (pa_cons (pe_exo (pe_oexV E15.oex I15.iC I15.tI I15.F (hr.mono (by decide)) I15.b .nil pass0 rfl m15 (pa_cons (pv 0) pa_nil))) pa_nil)) (pa_cons (pe_lst (pa_cons (pv 0) pa_nil)) pa_nil)))) (pa_cons (pe_tup (pa_cons (pe_oexV E16.oex I16.iC I16.tI I16.F (hr.mono (by decide)) I16.b .nil pass0 rfl m16 (pa_cons (pv 0) pa_nil)) (pa_cons (pe_lst (pa_cons (pe_exo (pe_oexV E16.oex I16.iC I16.tI I16.F (hr.mono (by decide)) I16.b .nil pass0 rfl m16 (pa_cons (pv 0) pa_nil))) pa_nil)) (pa_cons (pe_lst (pa_cons (pv 0) pa_nil)) pa_nil)))) (pa_cons (pe_tup (pa_cons (pe_oexV E17.oex I17.iC I17.tI I17.F (hr.mono (by decide)) I17.b .nil pass0 rfl m17 (pa_cons (pv 0) pa_nil)) (pa_cons (pe_lst (pa_cons (pe_exo (pe_oexV E17.oex I17.iC I17.tI I17.F (hr.mono (by decide)) I17.b .nil pass0 rfl m17 (pa_cons (pv 0) pa_nil))) pa_nil)) (pa_cons (pe_lst (pa_cons (pv 0) pa_nil)) pa_nil)))) (pa_cons (pe_tup (pa_cons (pe_oexV E18.oex I18.iC I18.tI I18.F (hr.mono (by decide)) I18.b .nil pass0 rfl m18 (pa_cons (pv 0) pa_nil)) (pa_cons (pe_lst (pa_cons (pe_exo (pe_oexV E18.oex I18.iC I18.tI I18.F (hr.mono (by decide)) I18.b .nil pass0 rfl m18 (pa_cons (pv 0) pa_nil))) pa_nil)) (pa_cons (pe_lst (pa_cons (pv 0) pa_nil)) pa_nil)))) (pa_cons (pe_tup (pa_cons (pe_oexV E19.oex I19.iC I19.tI I19.F (hr.mono (by decide)) I19.b .nil pass0 rfl m19 (pa_cons (pv 0) pa_nil)) (pa_cons (pe_lst (pa_cons (pe_exo (pe_oexV E19.oex I19.iC I19.tI I19.F (hr.mono (by decide)) I19.b .nil pass0 rfl m19 (pa_cons (pv 0) pa_nil))) pa_nil)) (pa_cons (pe_lst (pa_cons (pv 0) pa_nil)) pa_nil)))) (pa_cons (pe_tup (pa_cons (pe_oexV E20.oex I20.iC I20.tI I20.F (hr.mono (by decide)) I20.b .nil pass0 rfl m20 (pa_cons (pv 0) pa_nil)) (pa_cons (pe_lst (pa_cons (pe_exo (pe_oexV E20.oex I20.iC I20.tI I20.F (hr.mono (by decide)) I20.b .nil pass0 rfl m20 (pa_cons (pv 0) pa_nil))) pa_nil)) (pa_cons (pe_lst (pa_cons (pv 0) pa_nil)) pa_nil)))) (pa_cons (pe_tup (pa_cons (pe_oexV E21.oex I21.iC I21.tI I21.F (hr.mono (by decide)) I21.b .nil pass0 rfl m21 (pa_cons (pv 0) pa_nil)) (pa_cons (pe_lst (pa_cons (pe_exo (pe_oexV E21.oex I21.iC I21.tI I21.F (hr.mono (by decide)) I21.b .nil pass0 rfl m21 (pa_cons (pv 0) pa_nil))) pa_nil)) (pa_cons (pe_lst (pa_cons (pv 0) pa_nil)) pa_nil)))) pa_nil))))))))))))))))), ?_⟩
    have EX : Ex H H := Ex.refl _
    refine ⟨_, rfl, (by show 1 ≤ 1000; decide), fun e8 nn => ⟨e8, _, rfl, upd_same, fun d8_ H8 kp x8 y8 => ⟨rfl, ?_⟩⟩⟩
    have ex := kp_ex nn kp
    have EX := EX.trans ex
    clear nn kp ex
    refine ⟨_, rfl, (by show 1 ≤ 1000; decide), fun g8 nn => ⟨g8, _, rfl, upd_same, fun h8_ J8 kp u8 v8 => ⟨rfl, ?_⟩⟩⟩
    have ex := kp_ex nn kp
    have EX := EX.trans ex
    have x8 := ex _ _ x8
    have y8 := ex _ _ y8
    clear nn kp ex
    refine ⟨g8, _, h8_, _, _, rfl, E8.xf, n8_0, u8, v8, lkh, (by show 1 ≤ sizeLine; decide), fun l8 hl => ?_⟩
    have x := Ex.new (o := .lst [V.int (a)]) hl
    have EX := EX.trans x
    have x8 := x _ _ x8
    have y8 := x _ _ y8
    have p1 := new_at x
    clear x
    refine ⟨_, rfl, (by show 1 ≤ sizeLine; decide), fun k8 hk => ?_⟩
    have x := Ex.new (o := .lst [V.int (a)]) hk
    have EX := EX.trans x
    have x8 := x _ _ x8
    have y8 := x _ _ y8
    have p1 := x _ _ p1
    have p2 := new_at x
    clear x
    refine ⟨by show 3 ≤ sizeLine; decide, fun t8 ht => ?_⟩
    have x := Ex.new (o := .tup [V.ref e8, V.ref l8, V.ref k8]) ht
    have EX := EX.trans x
    have x8 := x _ _ x8
    have y8 := x _ _ y8
    have p1 := x _ _ p1
    have p2 := x _ _ p2
    have R8 := rowAt_mk [a] (new_at x) (show IsX C8 e8 _ from .inl ⟨d8_, _, x8, y8⟩) p1 p2 (show 1 ≤ 3 by decide)
    clear p1 p2 x
    refine ⟨_, rfl, (by show 1 ≤ 1000; decide), fun e9 nn => ⟨e9, _, rfl, upd_same, fun d9_ H9 kp x9 y9 => ⟨rfl, ?_⟩⟩⟩
    have ex := kp_ex nn kp
    have EX := EX.trans ex
    have R8 := R8.ex ex
    clear nn kp ex
    refine ⟨_, rfl, (by show 1 ≤ 1000; decide), fun g9 nn => ⟨g9, _, rfl, upd_same, fun h9_ J9 kp u9 v9 => ⟨rfl, ?_⟩⟩⟩
    have ex := kp_ex nn kp
    have EX := EX.trans ex
    have R8 := R8.ex ex
    have x9 := ex _ _ x9
    have y9 := ex _ _ y9
    clear nn kp ex
    refine ⟨g9, _, h9_, _, _, rfl, E9.xf, n9_0, u9, v9, lkh, (by show 1 ≤ sizeLine; decide), fun l9 hl => ?_⟩
    have x := Ex.new (o := .lst [V.int (a)]) hl
    have EX := EX.trans x
    have R8 := R8.ex x
    have x9 := x _ _ x9
    have y9 := x _ _ y9
    have p1 := new_at x
    clear x
    refine ⟨_, rfl, (by show 1 ≤ sizeLine; decide), fun k9 hk => ?_⟩
    have x := Ex.new (o := .lst [V.int (a)]) hk
    have EX := EX.trans x
    have R8 := R8.ex x
    have x9 := x _ _ x9
    have y9 := x _ _ y9
    have p1 := x _ _ p1
    have p2 := new_at x
    clear x
    refine ⟨by show 3 ≤ sizeLine; decide, fun t9 ht => ?_⟩
    have x := Ex.new (o := .tup [V.ref e9, V.ref l9, V.ref k9]) ht
    have EX := EX.trans x
    have R8 := R8.ex x
    have x9 := x _ _ x9
    have y9 := x _ _ y9
    have p1 := x _ _ p1
    have p2 := x _ _ p2
    have R9 := rowAt_mk [a] (new_at x) (show IsX C9 e9 _ from .inl ⟨d9_, _, x9, y9⟩) p1 p2 (show 1 ≤ 3 by decide)
    clear p1 p2 x
    refine ⟨_, rfl, (by show 1 ≤ 1000; decide), fun e10 nn => ⟨e10, _, rfl, upd_same, fun d10_ H10 kp x10 y10 => ⟨rfl, ?_⟩⟩⟩
    have ex := kp_ex nn kp
    have EX := EX.trans ex
    have R8 := R8.ex ex
    have R9 := R9.ex ex
    clear nn kp ex
    refine ⟨_, rfl, (by show 1 ≤ 1000; decide), fun g10 nn => ⟨g10, _, rfl, upd_same, fun h10_ J10 kp u10 v10 => ⟨rfl, ?_⟩⟩⟩
    have ex := kp_ex nn kp
    have EX := EX.trans ex
    have R8 := R8.ex ex
    have R9 := R9.ex ex
    have x10 := ex _ _ x10
    have y10 := ex _ _ y10
    clear nn kp ex
    refine ⟨g10, _, h10_, _, _, rfl, E10.xf, n10_0, u10, v10, lkh, (by show 1 ≤ sizeLine; decide), fun l10 hl => ?_⟩
    have x := Ex.new (o := .lst [V.int (a)]) hl
    have EX := EX.trans x
    have R8 := R8.ex x
    have R9 := R9.ex x
    have x10 := x _ _ x10
    have y10 := x _ _ y10
    have p1 := new_at x
    clear x
    refine ⟨_, rfl, (by show 1 ≤ sizeLine; decide), fun k10 hk => ?_⟩
    have x := Ex.new (o := .lst [V.int (a)]) hk
    have EX := EX.trans x
    have R8 := R8.ex x
    have R9 := R9.ex x
    have x10 := x _ _ x10
    have y10 := x _ _ y10
    have p1 := x _ _ p1
    have p2 := new_at x
    clear x
    refine ⟨by show 3 ≤ sizeLine; decide, fun t10 ht => ?_⟩
    have x := Ex.new (o := .tup [V.ref e10, V.ref l10, V.ref k10]) ht
    have EX := EX.trans x
    have R8 := R8.ex x
    have R9 := R9.ex x
    have x10 := x _ _ x10
    have y10 := x _ _ y10
    have p1 := x _ _ p1
    have p2 := x _ _ p2
    have R10 := rowAt_mk [a] (new_at x) (show IsX C10 e10 _ from .inl ⟨d10_, _, x10, y10⟩) p1 p2 (show 1 ≤ 3 by decide)
    clear p1 p2 x
    refine ⟨_, rfl, (by show 1 ≤ 1000; decide), fun e11 nn => ⟨e11, _, rfl, upd_same, fun d11_ H11 kp x11 y11 => ⟨rfl, ?_⟩⟩⟩
    have ex := kp_ex nn kp
    have EX := EX.trans ex
    have R8 := R8.ex ex
    have R9 := R9.ex ex
    have R10 := R10.ex ex
    clear nn kp ex
    refine ⟨_, rfl, (by show 1 ≤ 1000; decide), fun g11 nn => ⟨g11, _, rfl, upd_same, fun h11_ J11 kp u11 v11 => ⟨rfl, ?_⟩⟩⟩
    have ex := kp_ex nn kp
    have EX := EX.trans ex
    have R8 := R8.ex ex
    have R9 := R9.ex ex
    have R10 := R10.ex ex
    have x11 := ex _ _ x11
    have y11 := ex _ _ y11
    clear nn kp ex
    refine ⟨g11, _, h11_, _, _, rfl, E11.xf, n11_0, u11, v11, lkh, (by show 1 ≤ sizeLine; decide), fun l11 hl => ?_⟩
    have x := Ex.new (o := .lst [V.int (a)]) hl
    have EX := EX.trans x
    have R8 := R8.ex x
    have R9 := R9.ex x
    have R10 := R10.ex x
    have x11 := x _ _ x11
    have y11 := x _ _ y11
    have p1 := new_at x
    clear x
    refine ⟨_, rfl, (by show 1 ≤ sizeLine; decide), fun k11 hk => ?_⟩
    have x := Ex.new (o := .lst [V.int (a)]) hk
    have EX := EX.trans x
    have R8 := R8.ex x
    have R9 := R9.ex x
    have R10 := R10.ex x
    have x11 := x _ _ x11
    have y11 := x _ _ y11
    have p1 := x _ _ p1
    have p2 := new_at x
    clear x
    refine ⟨by show 3 ≤ sizeLine; decide, fun t11 ht => ?_⟩
    have x := Ex.new (o := .tup [V.ref e11, V.ref l11, V.ref k11]) ht
    have EX := EX.trans x
    have R8 := R8.ex x
    have R9 := R9.ex x
    have R10 := R10.ex x
    have x11 := x _ _ x11
    have y11 := x _ _ y11
    have p1 := x _ _ p1
    have p2 := x _ _ p2
    have R11 := rowAt_mk [a] (new_at x) (show IsX C11 e11 _ from .inl ⟨d11_, _, x11, y11⟩) p1 p2 (show 1 ≤ 3 by decide)
    clear p1 p2 x
    refine ⟨_, rfl, (by show 1 ≤ 1000; decide), fun e12 nn => ⟨e12, _, rfl, upd_same, fun d12_ H12 kp x12 y12 => ⟨rfl, ?_⟩⟩⟩
    have ex := kp_ex nn kp
    have EX := EX.trans ex
    have R8 := R8.ex ex
    have R9 := R9.ex ex
    have R10 := R10.ex ex
    have R11 := R11.ex ex
    clear nn kp ex
    refine ⟨_, rfl, (by show 1 ≤ 1000; decide), fun g12 nn => ⟨g12, _, rfl, upd_same, fun h12_ J12 kp u12 v12 => ⟨rfl, ?_⟩⟩⟩
    have ex := kp_ex nn kp
    have EX := EX.trans ex
    have R8 := R8.ex ex
    have R9 := R9.ex ex
    have R10 := R10.ex ex
    have R11 := R11.ex ex
    have x12 := ex _ _ x12
    have y12 := ex _ _ y12
    clear nn kp ex
    refine ⟨g12, _, h12_, _, _, rfl, E12.xf, n12_0, u12, v12, lkh, (by show 1 ≤ sizeLine; decide), fun l12 hl => ?_⟩
    have x := Ex.new (o := .lst [V.int (a)]) hl
    have EX := EX.trans x
    have R8 := R8.ex x
    have R9 := R9.ex x
    have R10 := R10.ex x
    have R11 := R11.ex x
    have x12 := x _ _ x12
    have y12 := x _ _ y12
    have p1 := new_at x
    clear x
    refine ⟨_, rfl, (by show 1 ≤ sizeLine; decide), fun k12 hk => ?_⟩
    have x := Ex.new (o := .lst [V.int (a)]) hk
    have EX := EX.trans x
    have R8 := R8.ex x
    have R9 := R9.ex x
    have R10 := R10.ex x
    have R11 := R11.ex x
    have x12 := x _ _ x12
    have y12 := x _ _ y12
    have p1 := x _ _ p1
    have p2 := new_at x
    clear x
    refine ⟨by show 3 ≤ sizeLine; decide, fun t12 ht => ?_⟩
    have x := Ex.new (o := .tup [V.ref e12, V.ref l12, V.ref k12]) ht
    have EX := EX.trans x
    have R8 := R8.ex x
    have R9 := R9.ex x
    have R10 := R10.ex x
    have R11 := R11.ex x
    have x12 := x _ _ x12
    have y12 := x _ _ y12
    have p1 := x _ _ p1
    have p2 := x _ _ p2
    have R12 := rowAt_mk [a] (new_at x) (show IsX C12 e12 _ from .inl ⟨d12_, _, x12, y12⟩) p1 p2 (show 1 ≤ 3 by decide)
    clear p1 p2 x
    refine ⟨_, rfl, (by show 1 ≤ 1000; decide), fun e13 nn => ⟨e13, _, rfl, upd_same, fun d13_ H13 kp x13 y13 => ⟨rfl, ?_⟩⟩⟩
    have ex := kp_ex nn kp
    have EX := EX.trans ex
    have R8 := R8.ex ex
    have R9 := R9.ex ex
    have R10 := R10.ex ex
    have R11 := R11.ex ex
    have R12 := R12.ex ex
    clear nn kp ex
    refine ⟨_, rfl, (by show 1 ≤ 1000; decide), fun g13 nn => ⟨g13, _, rfl, upd_same, fun h13_ J13 kp u13 v13 => ⟨rfl, ?_⟩⟩⟩
    have ex := kp_ex nn kp
    have EX := EX.trans ex
    have R8 := R8.ex ex
    have R9 := R9.ex ex
    have R10 := R10.ex ex
    have R11 := R11.ex ex
    have R12 := R12.ex ex
    have x13 := ex _ _ x13
    have y13 := ex _ _ y13
    clear nn kp ex
    refine ⟨g13, _, h13_, _, _, rfl, E13.xf, n13_0, u13, v13, lkh, (by show 1 ≤ sizeLine; decide), fun l13 hl => ?_⟩
    have x := Ex.new (o := .lst [V.int (a)]) hl
    have EX := EX.trans x
    have R8 := R8.ex x
    have R9 := R9.ex x
    have R10 := R10.ex x
    have R11 := R11.ex x
    have R12 := R12.ex x
    have x13 := x _ _ x13
    have y13 := x _ _ y13
    have p1 := new_at x
    clear x
    refine ⟨_, rfl, (by show 1 ≤ sizeLine; decide), fun k13 hk => ?_⟩
    have x := Ex.new (o := .lst [V.int (a)]) hk
    have EX := EX.trans x
    have R8 := R8.ex x
    have R9 := R9.ex x
    have R10 := R10.ex x
    have R11 := R11.ex x
    have R12 := R12.ex x
    have x13 := x _ _ x13
    have y13 := x _ _ y13
    have p1 := x _ _ p1
    have p2 := new_at x
    clear x
    refine ⟨by show 3 ≤ sizeLine; decide, fun t13 ht => ?_⟩
    have x := Ex.new (o := .tup [V.ref e13, V.ref l13, V.ref k13]) ht
    have EX := EX.trans x
    have R8 := R8.ex x
    have R9 := R9.ex x
    have R10 := R10.ex x
    have R11 := R11.ex x
    have R12 := R12.ex x
    have x13 := x _ _ x13
    have y13 := x _ _ y13
    have p1 := x _ _ p1
    have p2 := x _ _ p2
    have R13 := rowAt_mk [a] (new_at x) (show IsX C13 e13 _ from .inl ⟨d13_, _, x13, y13⟩) p1 p2 (show 1 ≤ 3 by decide)
    clear p1 p2 x
    refine ⟨_, rfl, (by show 1 ≤ 1000; decide), fun e14 nn => ⟨e14, _, rfl, upd_same, fun d14_ H14 kp x14 y14 => ⟨rfl, ?_⟩⟩⟩
    have ex := kp_ex nn kp
    have EX := EX.trans ex
    have R8 := R8.ex ex
    have R9 := R9.ex ex
    have R10 := R10.ex ex
    have R11 := R11.ex ex
    have R12 := R12.ex ex
    have R13 := R13.ex ex
    clear nn kp ex
    refine ⟨_, rfl, (by show 1 ≤ 1000; decide), fun g14 nn => ⟨g14, _, rfl, upd_same, fun h14_ J14 kp u14 v14 => ⟨rfl, ?_⟩⟩⟩
    have ex := kp_ex nn kp
    have EX := EX.trans ex
    have R8 := R8.ex ex
    have R9 := R9.ex ex
    have R10 := R10.ex ex
    have R11 := R11.ex ex
    have R12 := R12.ex ex
    have R13 := R13.ex ex
    have x14 := ex _ _ x14
    have y14 := ex _ _ y14
    clear nn kp ex
    refine ⟨g14, _, h14_, _, _, rfl, E14.xf, n14_0, u14, v14, lkh, (by show 1 ≤ sizeLine; decide), fun l14 hl => ?_⟩
    have x := Ex.new (o := .lst [V.int (a)]) hl
    have EX := EX.trans x
    have R8 := R8.ex x
    have R9 := R9.ex x
    have R10 := R10.ex x
    have R11 := R11.ex x
    have R12 := R12.ex x
    have R13 := R13.ex x
    have x14 := x _ _ x14
    have y14 := x _ _ y14
    have p1 := new_at x
    clear x
    refine ⟨_, rfl, (by show 1 ≤ sizeLine; decide), fun k14 hk => ?_⟩
    have x := Ex.new (o := .lst [V.int (a)]) hk
    have EX := EX.trans x
    have R8 := R8.ex x
    have R9 := R9.ex x
    have R10 := R10.ex x
    have R11 := R11.ex x
    have R12 := R12.ex x
    have R13 := R13.ex x
    have x14 := x _ _ x14
    have y14 := x _ _ y14
    have p1 := x _ _ p1
    have p2 := new_at x
    clear x
    refine ⟨by show 3 ≤ sizeLine; decide, fun t14 ht => ?_⟩
    have x := Ex.new (o := .tup [V.ref e14, V.ref l14, V.ref k14]) ht
    have EX := EX.trans x
    have R8 := R8.ex x
    have R9 := R9.ex x
    have R10 := R10.ex x
    have R11 := R11.ex x
    have R12 := R12.ex x
    have R13 := R13.ex x
    have x14 := x _ _ x14
    have y14 := x _ _ y14
    have p1 := x _ _ p1
    have p2 := x _ _ p2
    have R14 := rowAt_mk [a] (new_at x) (show IsX C14 e14 _ from .inl ⟨d14_, _, x14, y14⟩) p1 p2 (show 1 ≤ 3 by decide)
    clear p1 p2 x
    refine ⟨_, rfl, (by show 1 ≤ 1000; decide), fun e15 nn => ⟨e15, _, rfl, upd_same, fun d15_ H15 kp x15 y15 => ⟨rfl, ?_⟩⟩⟩
    have ex := kp_ex nn kp
    have EX := EX.trans ex
    have R8 := R8.ex ex
    have R9 := R9.ex ex
    have R10 := R10.ex ex
    have R11 := R11.ex ex
    have R12 := R12.ex ex
    have R13 := R13.ex ex
    have R14 := R14.ex ex
    clear nn kp ex
    refine ⟨_, rfl, (by show 1 ≤ 1000; decide), fun g15 nn => ⟨g15, _, rfl, upd_same, fun h15_ J15 kp u15 v15 => ⟨rfl, ?_⟩⟩⟩
    have ex := kp_ex nn kp
    have EX := EX.trans ex
    have R8 := R8.ex ex
    have R9 := R9.ex ex
    have R10 := R10.ex ex
    have R11 := R11.ex ex
    have R12 := R12.ex ex
    have R13 := R13.ex ex
    have R14 := R14.ex ex
    have x15 := ex _ _ x15
    have y15 := ex _ _ y15
    clear nn kp ex
    refine ⟨g15, _, h15_, _, _, rfl, E15.xf, n15_0, u15, v15, lkh, (by show 1 ≤ sizeLine; decide), fun l15 hl => ?_⟩
    have x := Ex.new (o := .lst [V.int (a)]) hl
    have EX := EX.trans x
    have R8 := R8.ex x
    have R9 := R9.ex x
    have R10 := R10.ex x
    have R11 := R11.ex x
    have R12 := R12.ex x
    have R13 := R13.ex x
    have R14 := R14.ex x
    have x15 := x _ _ x15
    have y15 := x _ _ y15
    have p1 := new_at x
    clear x
    refine ⟨_, rfl, (by show 1 ≤ sizeLine; decide), fun k15 hk => ?_⟩
    have x := Ex.new (o := .lst [V.int (a)]) hk
    have EX := EX.trans x
    have R8 := R8.ex x
    have R9 := R9.ex x
    have R10 := R10.ex x
    have R11 := R11.ex x
    have R12 := R12.ex x
    have R13 := R13.ex x
    have R14 := R14.ex x
    have x15 := x _ _ x15
    have y15 := x _ _ y15
    have p1 := x _ _ p1
    have p2 := new_at x
    clear x
    refine ⟨by show 3 ≤ sizeLine; decide, fun t15 ht => ?_⟩
    have x := Ex.new (o := .tup [V.ref e15, V.ref l15, V.ref k15]) ht
    have EX := EX.trans x
    have R8 := R8.ex x
    have R9 := R9.ex x
    have R10 := R10.ex x
    have R11 := R11.ex x
    have R12 := R12.ex x
    have R13 := R13.ex x
    have R14 := R14.ex x
    have x15 := x _ _ x15
    have y15 := x _ _ y15
    have p1 := x _ _ p1
    have p2 := x _ _ p2
    have R15 := rowAt_mk [a] (new_at x) (show IsX C15 e15 _ from .inl ⟨d15_, _, x15, y15⟩) p1 p2 (show 1 ≤ 3 by decide)
    clear p1 p2 x
    refine ⟨_, rfl, (by show 1 ≤ 1000; decide), fun e16 nn => ⟨e16, _, rfl, upd_same, fun d16_ H16 kp x16 y16 => ⟨rfl, ?_⟩⟩⟩
    have ex := kp_ex nn kp
    have EX := EX.trans ex
    have R8 := R8.ex ex
    have R9 := R9.ex ex
    have R10 := R10.ex ex
    have R11 := R11.ex ex
    have R12 := R12.ex ex
    have R13 := R13.ex ex
    have R14 := R14.ex ex
    have R15 := R15.ex ex
    clear nn kp ex
    refine ⟨_, rfl, (by show 1 ≤ 1000; decide), fun g16 nn => ⟨g16, _, rfl, upd_same, fun h16_ J16 kp u16 v16 => ⟨rfl, ?_⟩⟩⟩
    have ex := kp_ex nn kp
    have EX := EX.trans ex
    have R8 := R8.ex ex
    have R9 := R9.ex ex
    have R10 := R10.ex ex
    have R11 := R11.ex ex
    have R12 := R12.ex ex
    have R13 := R13.ex ex
    have R14 := R14.ex ex
    have R15 := R15.ex ex
    have x16 := ex _ _ x16
    have y16 := ex _ _ y16
    clear nn kp ex
    refine ⟨g16, _, h16_, _, _, rfl, E16.xf, n16_0, u16, v16, lkh, (by show 1 ≤ sizeLine; decide), fun l16 hl => ?_⟩
    have x := Ex.new (o := .lst [V.int (a)]) hl
    have EX := EX.trans x
    have R8 := R8.ex x
    have R9 := R9.ex x
    have R10 := R10.ex x
    have R11 := R11.ex x
    have R12 := R12.ex x
    have R13 := R13.ex x
    have R14 := R14.ex x
    have R15 := R15.ex x
    have x16 := x _ _ x16
    have y16 := x _ _ y16
    have p1 := new_at x
    clear x
    refine ⟨_, rfl, (by show 1 ≤ sizeLine; decide), fun k16 hk => ?_⟩
    have x := Ex.new (o := .lst [V.int (a)]) hk
    have EX := EX.trans x
    have R8 := R8.ex x
    have R9 := R9.ex x
    have R10 := R10.ex x
    have R11 := R11.ex x
    have R12 := R12.ex x
    have R13 := R13.ex x
    have R14 := R14.ex x
    have R15 := R15.ex x
    have x16 := x _ _ x16
    have y16 := x _ _ y16
    have p1 := x _ _ p1
    have p2 := new_at x
    clear x
    refine ⟨by show 3 ≤ sizeLine; decide, fun t16 ht => ?_⟩
    have x := Ex.new (o := .tup [V.ref e16, V.ref l16, V.ref k16]) ht
    have EX := EX.trans x
    have R8 := R8.ex x
    have R9 := R9.ex x
    have R10 := R10.ex x
    have R11 := R11.ex x
    have R12 := R12.ex x
    have R13 := R13.ex x
    have R14 := R14.ex x
    have R15 := R15.ex x
    have x16 := x _ _ x16
    have y16 := x _ _ y16
    have p1 := x _ _ p1
    have p2 := x _ _ p2
    have R16 := rowAt_mk [a] (new_at x) (show IsX C16 e16 _ from .inl ⟨d16_, _, x16, y16⟩) p1 p2 (show 1 ≤ 3 by decide)
    clear p1 p2 x
    refine ⟨_, rfl, (by show 1 ≤ 1000; decide), fun e17 nn => ⟨e17, _, rfl, upd_same, fun d17_ H17 kp x17 y17 => ⟨rfl, ?_⟩⟩⟩
    have ex := kp_ex nn kp
    have EX := EX.trans ex
    have R8 := R8.ex ex
    have R9 := R9.ex ex
    have R10 := R10.ex ex
    have R11 := R11.ex ex
    have R12 := R12.ex ex
    have R13 := R13.ex ex
    have R14 := R14.ex ex
    have R15 := R15.ex ex
    have R16 := R16.ex ex
    clear nn kp ex
    refine ⟨_, rfl, (by show 1 ≤ 1000; decide), fun g17 nn => ⟨g17, _, rfl, upd_same, fun h17_ J17 kp u17 v17 => ⟨rfl, ?_⟩⟩⟩
    have ex := kp_ex nn kp
    have EX := EX.trans ex
    have R8 := R8.ex ex
    have R9 := R9.ex ex
    have R10 := R10.ex ex
    have R11 := R11.ex ex
    have R12 := R12.ex ex
    have R13 := R13.ex ex
    have R14 := R14.ex ex
    have R15 := R15.ex ex
    have R16 := R16.ex ex
    have x17 := ex _ _ x17
    have y17 := ex _ _ y17
    clear nn kp ex
    refine ⟨g17, _, h17_, _, _, rfl, E17.xf, n17_0, u17, v17, lkh, (by show 1 ≤ sizeLine; decide), fun l17 hl => ?_⟩
    have x := Ex.new (o := .lst [V.int (a)]) hl
    have EX := EX.trans x
    have R8 := R8.ex x
    have R9 := R9.ex x
    have R10 := R10.ex x
    have R11 := R11.ex x
    have R12 := R12.ex x
    have R13 := R13.ex x
    have R14 := R14.ex x
    have R15 := R15.ex x
    have R16 := R16.ex x
    have x17 := x _ _ x17
    have y17 := x _ _ y17
    have p1 := new_at x
    clear x
    refine ⟨_, rfl, (by show 1 ≤ sizeLine; decide), fun k17 hk => ?_⟩
    have x := Ex.new (o := .lst [V.int (a)]) hk
    have EX := EX.trans x
    have R8 := R8.ex x
    have R9 := R9.ex x
    have R10 := R10.ex x
    have R11 := R11.ex x
    have R12 := R12.ex x
    have R13 := R13.ex x
    have R14 := R14.ex x
    have R15 := R15.ex x
    have R16 := R16.ex x
    have x17 := x _ _ x17
    have y17 := x _ _ y17
    have p1 := x _ _ p1
    have p2 := new_at x
    clear x
    refine ⟨by show 3 ≤ sizeLine; decide, fun t17 ht => ?_⟩
    have x := Ex.new (o := .tup [V.ref e17, V.ref l17, V.ref k17]) ht
    have EX := EX.trans x
    have R8 := R8.ex x
    have R9 := R9.ex x
    have R10 := R10.ex x
    have R11 := R11.ex x
    have R12 := R12.ex x
    have R13 := R13.ex x
    have R14 := R14.ex x
    have R15 := R15.ex x
    have R16 := R16.ex x
    have x17 := x _ _ x17
    have y17 := x _ _ y17
    have p1 := x _ _ p1
    have p2 := x _ _ p2
    have R17 := rowAt_mk [a] (new_at x) (show IsX C17 e17 _ from .inl ⟨d17_, _, x17, y17⟩) p1 p2 (show 1 ≤ 3 by decide)
    clear p1 p2 x
    refine ⟨_, rfl, (by show 1 ≤ 1000; decide), fun e18 nn => ⟨e18, _, rfl, upd_same, fun d18_ H18 kp x18 y18 => ⟨rfl, ?_⟩⟩⟩
    have ex := kp_ex nn kp
    have EX := EX.trans ex
    have R8 := R8.ex ex
    have R9 := R9.ex ex
    have R10 := R10.ex ex
    have R11 := R11.ex ex
    have R12 := R12.ex ex
    have R13 := R13.ex ex
    have R14 := R14.ex ex
    have R15 := R15.ex ex
    have R16 := R16.ex ex
    have R17 := R17.ex ex
    clear nn kp ex
    refine ⟨_, rfl, (by show 1 ≤ 1000; decide), fun g18 nn => ⟨g18, _, rfl, upd_same, fun h18_ J18 kp u18 v18 => ⟨rfl, ?_⟩⟩⟩
    have ex := kp_ex nn kp
    have EX := EX.trans ex
    have R8 := R8.ex ex
    have R9 := R9.ex ex
    have R10 := R10.ex ex
    have R11 := R11.ex ex
    have R12 := R12.ex ex
    have R13 := R13.ex ex
    have R14 := R14.ex ex
    have R15 := R15.ex ex
    have R16 := R16.ex ex
    have R17 := R17.ex ex
    have x18 := ex _ _ x18
    have y18 := ex _ _ y18
    clear nn kp ex
    refine ⟨g18, _, h18_, _, _, rfl, E18.xf, n18_0, u18, v18, lkh, (by show 1 ≤ sizeLine; decide), fun l18 hl => ?_⟩
    have x := Ex.new (o := .lst [V.int (a)]) hl
    have EX := EX.trans x
    have R8 := R8.ex x
    have R9 := R9.ex x
    have R10 := R10.ex x
    have R11 := R11.ex x
    have R12 := R12.ex x
    have R13 := R13.ex x
    have R14 := R14.ex x
    have R15 := R15.ex x
    have R16 := R16.ex x
    have R17 := R17.ex x
    have x18 := x _ _ x18
    have y18 := x _ _ y18
    have p1 := new_at x
    clear x
    refine ⟨_, rfl, (by show 1 ≤ sizeLine; decide), fun k18 hk => ?_⟩
    have x := Ex.new (o := .lst [V.int (a)]) hk
    have EX := EX.trans x
    have R8 := R8.ex x
    have R9 := R9.ex x
    have R10 := R10.ex x
    have R11 := R11.ex x
    have R12 := R12.ex x
    have R13 := R13.ex x
    have R14 := R14.ex x
    have R15 := R15.ex x
    have R16 := R16.ex x
    have R17 := R17.ex x
    have x18 := x _ _ x18
    have y18 := x _ _ y18
    have p1 := x _ _ p1
    have p2 := new_at x
    clear x
    refine ⟨by show 3 ≤ sizeLine; decide, fun t18 ht => ?_⟩
    have x := Ex.new (o := .tup [V.ref e18, V.ref l18, V.ref k18]) ht
    have EX := EX.trans x
    have R8 := R8.ex x
    have R9 := R9.ex x
    have R10 := R10.ex x
    have R11 := R11.ex x
    have R12 := R12.ex x
    have R13 := R13.ex x
    have R14 := R14.ex x
    have R15 := R15.ex x
    have R16 := R16.ex x
    have R17 := R17.ex x
    have x18 := x _ _ x18
    have y18 := x _ _ y18
    have p1 := x _ _ p1
    have p2 := x _ _ p2
    have R18 := rowAt_mk [a] (new_at x) (show IsX C18 e18 _ from .inl ⟨d18_, _, x18, y18⟩) p1 p2 (show 1 ≤ 3 by decide)
    clear p1 p2 x
    refine ⟨_, rfl, (by show 1 ≤ 1000; decide), fun e19 nn => ⟨e19, _, rfl, upd_same, fun d19_ H19 kp x19 y19 => ⟨rfl, ?_⟩⟩⟩
    have ex := kp_ex nn kp
    have EX := EX.trans ex
    have R8 := R8.ex ex
    have R9 := R9.ex ex
    have R10 := R10.ex ex
    have R11 := R11.ex ex
    have R12 := R12.ex ex
    have R13 := R13.ex ex
    have R14 := R14.ex ex
    have R15 := R15.ex ex
    have R16 := R16.ex ex
    have R17 := R17.ex ex
    have R18 := R18.ex ex
    clear nn kp ex
    refine ⟨_, rfl, (by show 1 ≤ 1000; decide), fun g19 nn => ⟨g19, _, rfl, upd_same, fun h19_ J19 kp u19 v19 => ⟨rfl, ?_⟩⟩⟩
    have ex := kp_ex nn kp
    have EX := EX.trans ex
    have R8 := R8.ex ex
    have R9 := R9.ex ex
    have R10 := R10.ex ex
    have R11 := R11.ex ex
    have R12 := R12.ex ex
    have R13 := R13.ex ex
    have R14 := R14.ex ex
    have R15 := R15.ex ex
    have R16 := R16.ex ex
    have R17 := R17.ex ex
    have R18 := R18.ex ex
    have x19 := ex _ _ x19
    have y19 := ex _ _ y19
    clear nn kp ex
    refine ⟨g19, _, h19_, _, _, rfl, E19.xf, n19_0, u19, v19, lkh, (by show 1 ≤ sizeLine; decide), fun l19 hl => ?_⟩
    have x := Ex.new (o := .lst [V.int (a)]) hl
    have EX := EX.trans x
    have R8 := R8.ex x
    have R9 := R9.ex x
    have R10 := R10.ex x
    have R11 := R11.ex x
    have R12 := R12.ex x
    have R13 := R13.ex x
    have R14 := R14.ex x
    have R15 := R15.ex x
    have R16 := R16.ex x
    have R17 := R17.ex x
    have R18 := R18.ex x
    have x19 := x _ _ x19
    have y19 := x _ _ y19
    have p1 := new_at x
    clear x
    refine ⟨_, rfl, (by show 1 ≤ sizeLine; decide), fun k19 hk => ?_⟩
    have x := Ex.new (o := .lst [V.int (a)]) hk
    have EX := EX.trans x
    have R8 := R8.ex x
    have R9 := R9.ex x
    have R10 := R10.ex x
    have R11 := R11.ex x
    have R12 := R12.ex x
    have R13 := R13.ex x
    have R14 := R14.ex x
    have R15 := R15.ex x
    have R16 := R16.ex x
    have R17 := R17.ex x
    have R18 := R18.ex x
    have x19 := x _ _ x19
    have y19 := x _ _ y19
    have p1 := x _ _ p1
    have p2 := new_at x
    clear x
    refine ⟨by show 3 ≤ sizeLine; decide, fun t19 ht => ?_⟩
    have x := Ex.new (o := .tup [V.ref e19, V.ref l19, V.ref k19]) ht
    have EX := EX.trans x
    have R8 := R8.ex x
    have R9 := R9.ex x
    have R10 := R10.ex x
    have R11 := R11.ex x
    have R12 := R12.ex x
    have R13 := R13.ex x
    have R14 := R14.ex x
    have R15 := R15.ex x
    have R16 := R16.ex x
    have R17 := R17.ex x
    have R18 := R18.ex x
    have x19 := x _ _ x19
    have y19 := x _ _ y19
    have p1 := x _ _ p1
    have p2 := x _ _ p2
    have R19 := rowAt_mk [a] (new_at x) (show IsX C19 e19 _ from .inl ⟨d19_, _, x19, y19⟩) p1 p2 (show 1 ≤ 3 by decide)
    clear p1 p2 x
    refine ⟨_, rfl, (by show 1 ≤ 1000; decide), fun e20 nn => ⟨e20, _, rfl, upd_same, fun d20_ H20 kp x20 y20 => ⟨rfl, ?_⟩⟩⟩
    have ex := kp_ex nn kp
    have EX := EX.trans ex
    have R8 := R8.ex ex
    have R9 := R9.ex ex
    have R10 := R10.ex ex
    have R11 := R11.ex ex
    have R12 := R12.ex ex
    have R13 := R13.ex ex
    have R14 := R14.ex ex
    have R15 := R15.ex ex
    have R16 := R16.ex ex
    have R17 := R17.ex ex
    have R18 := R18.ex ex
    have R19 := R19.ex ex
    clear nn kp ex
    refine ⟨_, rfl, (by show 1 ≤ 1000; decide), fun g20 nn => ⟨g20, _, rfl, upd_same, fun h20_ J20 kp u20 v20 => ⟨rfl, ?_⟩⟩⟩
    have ex := kp_ex nn kp
    have EX := EX.trans ex
    have R8 := R8.ex ex
    have R9 := R9.ex ex
    have R10 := R10.ex ex
    have R11 := R11.ex ex
    have R12 := R12.ex ex
    have R13 := R13.ex ex
    have R14 := R14.ex ex
    have R15 := R15.ex ex
    have R16 := R16.ex ex
    have R17 := R17.ex ex
    have R18 := R18.ex ex
    have R19 := R19.ex ex
    have x20 := ex _ _ x20
    have y20 := ex _ _ y20
    clear nn kp ex
    refine ⟨g20, _, h20_, _, _, rfl, E20.xf, n20_0, u20, v20, lkh, (by show 1 ≤ sizeLine; decide), fun l20 hl => ?_⟩
    have x := Ex.new (o := .lst [V.int (a)]) hl
    have EX := EX.trans x
    have R8 := R8.ex x
    have R9 := R9.ex x
    have R10 := R10.ex x
    have R11 := R11.ex x
    have R12 := R12.ex x
    have R13 := R13.ex x
    have R14 := R14.ex x
    have R15 := R15.ex x
    have R16 := R16.ex x
    have R17 := R17.ex x
    have R18 := R18.ex x
    have R19 := R19.ex x
    have x20 := x _ _ x20
    have y20 := x _ _ y20
    have p1 := new_at x
    clear x
    refine ⟨_, rfl, (by show 1 ≤ sizeLine; decide), fun k20 hk => ?_⟩
    have x := Ex.new (o := .lst [V.int (a)]) hk
    have EX := EX.trans x
    have R8 := R8.ex x
    have R9 := R9.ex x
    have R10 := R10.ex x
    have R11 := R11.ex x
    have R12 := R12.ex x
    have R13 := R13.ex x
    have R14 := R14.ex x
    have R15 := R15.ex x
    have R16 := R16.ex x
    have R17 := R17.ex x
    have R18 := R18.ex x
    have R19 := R19.ex x
    have x20 := x _ _ x20
    have y20 := x _ _ y20
    have p1 := x _ _ p1
    have p2 := new_at x
    clear x
    refine ⟨by show 3 ≤ sizeLine; decide, fun t20 ht => ?_⟩
    have x := Ex.new (o := .tup [V.ref e20, V.ref l20, V.ref k20]) ht
    have EX := EX.trans x
    have R8 := R8.ex x
    have R9 := R9.ex x
    have R10 := R10.ex x
    have R11 := R11.ex x
    have R12 := R12.ex x
    have R13 := R13.ex x
    have R14 := R14.ex x
    have R15 := R15.ex x
    have R16 := R16.ex x
    have R17 := R17.ex x
    have R18 := R18.ex x
    have R19 := R19.ex x
    have x20 := x _ _ x20
    have y20 := x _ _ y20
    have p1 := x _ _ p1
    have p2 := x _ _ p2
    have R20 := rowAt_mk [a] (new_at x) (show IsX C20 e20 _ from .inl ⟨d20_, _, x20, y20⟩) p1 p2 (show 1 ≤ 3 by decide)
    clear p1 p2 x
    refine ⟨_, rfl, (by show 1 ≤ 1000; decide), fun e21 nn => ⟨e21, _, rfl, upd_same, fun d21_ H21 kp x21 y21 => ⟨rfl, ?_⟩⟩⟩
    have ex := kp_ex nn kp
    have EX := EX.trans ex
    have R8 := R8.ex ex
    have R9 := R9.ex ex
    have R10 := R10.ex ex
    have R11 := R11.ex ex
    have R12 := R12.ex ex
    have R13 := R13.ex ex
    have R14 := R14.ex ex
    have R15 := R15.ex ex
    have R16 := R16.ex ex
    have R17 := R17.ex ex
    have R18 := R18.ex ex
    have R19 := R19.ex ex
    have R20 := R20.ex ex
    clear nn kp ex
    refine ⟨_, rfl, (by show 1 ≤ 1000; decide), fun g21 nn => ⟨g21, _, rfl, upd_same, fun h21_ J21 kp u21 v21 => ⟨rfl, ?_⟩⟩⟩
    have ex := kp_ex nn kp
    have EX := EX.trans ex
    have R8 := R8.ex ex
    have R9 := R9.ex ex
    have R10 := R10.ex ex
    have R11 := R11.ex ex
    have R12 := R12.ex ex
    have R13 := R13.ex ex
    have R14 := R14.ex ex
    have R15 := R15.ex ex
    have R16 := R16.ex ex
    have R17 := R17.ex ex
    have R18 := R18.ex ex
    have R19 := R19.ex ex
    have R20 := R20.ex ex
    have x21 := ex _ _ x21
    have y21 := ex _ _ y21
    clear nn kp ex
    refine ⟨g21, _, h21_, _, _, rfl, E21.xf, n21_0, u21, v21, lkh, (by show 1 ≤ sizeLine; decide), fun l21 hl => ?_⟩
    have x := Ex.new (o := .lst [V.int (a)]) hl
    have EX := EX.trans x
    have R8 := R8.ex x
    have R9 := R9.ex x
    have R10 := R10.ex x
    have R11 := R11.ex x
    have R12 := R12.ex x
    have R13 := R13.ex x
    have R14 := R14.ex x
    have R15 := R15.ex x
    have R16 := R16.ex x
    have R17 := R17.ex x
    have R18 := R18.ex x
    have R19 := R19.ex x
    have R20 := R20.ex x
    have x21 := x _ _ x21
    have y21 := x _ _ y21
    have p1 := new_at x
    clear x
    refine ⟨_, rfl, (by show 1 ≤ sizeLine; decide), fun k21 hk => ?_⟩
    have x := Ex.new (o := .lst [V.int (a)]) hk
    have EX := EX.trans x
    have R8 := R8.ex x
    have R9 := R9.ex x
    have R10 := R10.ex x
    have R11 := R11.ex x
    have R12 := R12.ex x
    have R13 := R13.ex x
    have R14 := R14.ex x
    have R15 := R15.ex x
    have R16 := R16.ex x
    have R17 := R17.ex x
    have R18 := R18.ex x
    have R19 := R19.ex x
    have R20 := R20.ex x
    have x21 := x _ _ x21
    have y21 := x _ _ y21
    have p1 := x _ _ p1
    have p2 := new_at x
    clear x
    refine ⟨by show 3 ≤ sizeLine; decide, fun t21 ht => ?_⟩
    have x := Ex.new (o := .tup [V.ref e21, V.ref l21, V.ref k21]) ht
    have EX := EX.trans x
    have R8 := R8.ex x
    have R9 := R9.ex x
    have R10 := R10.ex x
    have R11 := R11.ex x
    have R12 := R12.ex x
    have R13 := R13.ex x
    have R14 := R14.ex x
    have R15 := R15.ex x
    have R16 := R16.ex x
    have R17 := R17.ex x
    have R18 := R18.ex x
    have R19 := R19.ex x
    have R20 := R20.ex x
    have x21 := x _ _ x21
    have y21 := x _ _ y21
    have p1 := x _ _ p1
    have p2 := x _ _ p2
    have R21 := rowAt_mk [a] (new_at x) (show IsX C21 e21 _ from .inl ⟨d21_, _, x21, y21⟩) p1 p2 (show 1 ≤ 3 by decide)
    clear p1 p2 x
    refine ⟨by show 14 ≤ sizeLine; decide, fun pp hp => ?_⟩
    have x := Ex.new (o := .lst [V.ref t8, V.ref t9, V.ref t10, V.ref t11, V.ref t12, V.ref t13, V.ref t14, V.ref t15, V.ref t16, V.ref t17, V.ref t18, V.ref t19, V.ref t20, V.ref t21]) hp
    have EX := EX.trans x
    have R8 := R8.ex x
    have R9 := R9.ex x
    have R10 := R10.ex x
    have R11 := R11.ex x
    have R12 := R12.ex x
    have R13 := R13.ex x
    have R14 := R14.ex x
    have R15 := R15.ex x
    have R16 := R16.ex x
    have R17 := R17.ex x
    have R18 := R18.ex x
    have R19 := R19.ex x
    have R20 := R20.ex x
    have R21 := R21.ex x
    exact k pp _ _ EX upd_same (.cons R8 (.cons R9 (.cons R10 (.cons R11 (.cons R12 (.cons R13 (.cons R14 (.cons R15 (.cons R16 (.cons R17 (.cons R18 (.cons R19 (.cons R20 (.cons R21 .nil))))))))))))))
abbrev sKi : Stmt := top 29
theorem scKi : FnScope ["_law_error"] ["_law_error"] (defScope sKi) := ⟨rfl, rfl, rfl, by decide +kernel, rfl, by decide +kernel, by decide +kernel⟩
theorem ok_kinds {C0 C1 C2 C3 C4 C5 C6 C7 C8 C9 C10 C11 C12 C13 C14 C15 C16 C17 C18 C19 C20 C21 f : Addr} {fd : FuncData} (F : Fun K "_law_kinds" "_law_kinds" sKi f fd) (T : Txt K mg) (m0 : mg "NoMoment" = some (.ref C0)) (m1 : mg "NoMark" = some (.ref C1)) (m2 : mg "NoWindow" = some (.ref C2)) (m3 : mg "NoPace" = some (.ref C3)) (m4 : mg "Lost" = some (.ref C4)) (m5 : mg "LooksAhead" = some (.ref C5)) (m6 : mg "NoTurns" = some (.ref C6)) (m7 : mg "NotPlain" = some (.ref C7)) (m8 : mg "NoText" = some (.ref C8)) (m9 : mg "NoRounds" = some (.ref C9)) (m10 : mg "NoName" = some (.ref C10)) (m11 : mg "BadPace" = some (.ref C11)) (m12 : mg "NoStep" = some (.ref C12)) (m13 : mg "Unfilled" = some (.ref C13)) (m14 : mg "NoChart" = some (.ref C14)) (m15 : mg "TooSoon" = some (.ref C15)) (m16 : mg "NoStretch" = some (.ref C16)) (m17 : mg "OutOfWindow" = some (.ref C17)) (m18 : mg "NoMove" = some (.ref C18)) (m19 : mg "NoChannel" = some (.ref C19)) (m20 : mg "NoSpan" = some (.ref C20)) (m21 : mg "Ringed" = some (.ref C21)) : FnOk P w K mg base CX0 1 f fd ["_law_error"] (spKinds K [C0, C1, C2, C3, C4, C5, C6, C7, C8, C9, C10, C11, C12, C13, C14, C15, C16, C17, C18, C19, C20, C21]) := by
  refine F.ok scKi (fun vs H Q E h => ?_) (fun cdv A outer s H vs Q E hr h => ?_)
  · obtain ⟨e, C, b, rfl, _⟩ := h
    rfl
  · obtain ⟨e, C, b, rfl, xi, hx, kb, k⟩ := h
    refine ⟨_, (pss_one (ps_ret (pe_lst (pa_cons (pe_callB (r := rIsiE K) call_isiE rfl T.isi PyProof.Rows.boot_isinstance (pa_cons (pv 0) (pa_cons (pe_glob (v := .ref C0) rfl m0 rfl) pa_nil))) (pa_cons (pe_callB (r := rIsiE K) call_isiE rfl T.isi PyProof.Rows.boot_isinstance (pa_cons (pv 0) (pa_cons (pe_glob (v := .ref C1) rfl m1 rfl) pa_nil))) (pa_cons (pe_callB (r := rIsiE K) call_isiE rfl T.isi PyProof.Rows.boot_isinstance (pa_cons (pv 0) (pa_cons (pe_glob (v := .ref C2) rfl m2 rfl) pa_nil))) (pa_cons (pe_callB (r := rIsiE K) call_isiE rfl T.isi PyProof.Rows.boot_isinstance (pa_cons (pv 0) (pa_cons (pe_glob (v := .ref C3) rfl m3 rfl) pa_nil))) (pa_cons (pe_callB (r := rIsiE K) call_isiE rfl T.isi PyProof.Rows.boot_isinstance (pa_cons (pv 0) (pa_cons (pe_glob (v := .ref C4) rfl m4 rfl) pa_nil))) (pa_cons (pe_callB (r := rIsiE K) call_isiE rfl T.isi PyProof.Rows.boot_isinstance (pa_cons (pv 0) (pa_cons (pe_glob (v := .ref C5) rfl m5 rfl) pa_nil))) (pa_cons (pe_callB (r := rIsiE K) call_isiE rfl T.isi PyProof.Rows.boot_isinstance (pa_cons (pv 0) (pa_cons (pe_glob (v := .ref C6) rfl m6 rfl) pa_nil))) (pa_cons (pe_callB (r := rIsiE K) call_isiE rfl T.isi PyProof.Rows.boot_isinstance (pa_cons (pv 0) (pa_cons (pe_glob (v := .ref C7) rfl m7 rfl) pa_nil))) (pa_cons (pe_callB (r := rIsiE K) call_isiE rfl T.isi PyProof.Rows.boot_isinstance (pa_cons (pv 0) (pa_cons (pe_glob (v := .ref C8) rfl m8 rfl) pa_nil))) (pa_cons (pe_callB (r := rIsiE K) call_isiE rfl T.isi PyProof.Rows.boot_isinstance (pa_cons (pv 0) (pa_cons (pe_glob (v := .ref C9) rfl m9 rfl) pa_nil))) (pa_cons (pe_callB (r := rIsiE K) call_isiE rfl T.isi PyProof.Rows.boot_isinstance (pa_cons (pv 0) (pa_cons (pe_glob (v := .ref C10) rfl m10 rfl) pa_nil))) (pa_cons (pe_callB (r := rIsiE K) call_isiE rfl T.isi PyProof.Rows.boot_isinstance (pa_cons (pv 0) (pa_cons (pe_glob (v := .ref C11) rfl m11 rfl) pa_nil))) (pa_cons (pe_callB (r := rIsiE K) call_isiE rfl T.isi PyProof.Rows.boot_isinstance (pa_cons (pv 0) (pa_cons (pe_glob (v := .ref C12) rfl m12 rfl) pa_nil))) (pa_cons (pe_callB (r := rIsiE K) call_isiE rfl T.isi PyProof.Rows.boot_isinstance (pa_cons (pv 0) (pa_cons (pe_glob (v := .ref C13) rfl m13 rfl) pa_nil))) (pa_cons (pe_callB (r := rIsiE K) call_isiE rfl T.isi PyProof.Rows.boot_isinstance (pa_cons (pv 0) (pa_cons (pe_glob (v := .ref C14) rfl m14 rfl) pa_nil))) (pa_cons (pe_callB (r := rIsiE K) call_isiE rfl T.isi PyProof.Rows.boot_isinstance (pa_cons (pv 0) (pa_cons (pe_glob (v := .ref C15) rfl m15 rfl) pa_nil))) (pa_cons (pe_callB (r := rIsiE K) call_isiE rfl T.isi PyProof.Rows.boot_isinstance (pa_cons (pv 0) (pa_cons (pe_glob (v := .ref C16) rfl m16 rfl) pa_nil))) (pa_cons (pe_callB (r := rIsiE K) call_isiE rfl T.isi PyProof.Rows.boot_isinstance (pa_cons (pv 0) (pa_cons (pe_glob (v := .ref C17) rfl m17 rfl) pa_nil))) (pa_cons (pe_callB (r := rIsiE K) call_isiE rfl T.isi PyProof.Rows.boot_isinstance (pa_cons (pv 0) (pa_cons (pe_glob (v := .ref C18) rfl m18 rfl) pa_nil))) (pa_cons (pe_callB (r := rIsiE K) call_isiE rfl T.isi PyProof.Rows.boot_isinstance (pa_cons (pv 0) (pa_cons (pe_glob (v := .ref C19) rfl m19 rfl) pa_nil))) (pa_cons (pe_callB (r := rIsiE K) call_isiE rfl T.isi PyProof.Rows.boot_isinstance (pa_cons (pv 0) (pa_cons (pe_glob (v := .ref C20) rfl m20 rfl) pa_nil))) (pa_cons (pe_callB (r := rIsiE K) call_isiE rfl T.isi PyProof.Rows.boot_isinstance (pa_cons (pv 0) (pa_cons (pe_glob (v := .ref C21) rfl m21 rfl) pa_nil))) pa_nil))))))))))))))))))))))))), ?_⟩
    refine ⟨_, rfl, e, C, _, _, b 0, rfl, .own C0, xi, hx, kb 0 C0 rfl, ?_⟩
    refine ⟨_, rfl, e, C, _, _, b 1, rfl, .own C1, xi, hx, kb 1 C1 rfl, ?_⟩
    refine ⟨_, rfl, e, C, _, _, b 2, rfl, .own C2, xi, hx, kb 2 C2 rfl, ?_⟩
    refine ⟨_, rfl, e, C, _, _, b 3, rfl, .own C3, xi, hx, kb 3 C3 rfl, ?_⟩
    refine ⟨_, rfl, e, C, _, _, b 4, rfl, .own C4, xi, hx, kb 4 C4 rfl, ?_⟩
    refine ⟨_, rfl, e, C, _, _, b 5, rfl, .own C5, xi, hx, kb 5 C5 rfl, ?_⟩
    refine ⟨_, rfl, e, C, _, _, b 6, rfl, .own C6, xi, hx, kb 6 C6 rfl, ?_⟩
    refine ⟨_, rfl, e, C, _, _, b 7, rfl, .own C7, xi, hx, kb 7 C7 rfl, ?_⟩
    refine ⟨_, rfl, e, C, _, _, b 8, rfl, .own C8, xi, hx, kb 8 C8 rfl, ?_⟩
    refine ⟨_, rfl, e, C, _, _, b 9, rfl, .own C9, xi, hx, kb 9 C9 rfl, ?_⟩
    refine ⟨_, rfl, e, C, _, _, b 10, rfl, .own C10, xi, hx, kb 10 C10 rfl, ?_⟩
    refine ⟨_, rfl, e, C, _, _, b 11, rfl, .own C11, xi, hx, kb 11 C11 rfl, ?_⟩
    refine ⟨_, rfl, e, C, _, _, b 12, rfl, .own C12, xi, hx, kb 12 C12 rfl, ?_⟩
    refine ⟨_, rfl, e, C, _, _, b 13, rfl, .own C13, xi, hx, kb 13 C13 rfl, ?_⟩
    refine ⟨_, rfl, e, C, _, _, b 14, rfl, .own C14, xi, hx, kb 14 C14 rfl, ?_⟩
    refine ⟨_, rfl, e, C, _, _, b 15, rfl, .own C15, xi, hx, kb 15 C15 rfl, ?_⟩
    refine ⟨_, rfl, e, C, _, _, b 16, rfl, .own C16, xi, hx, kb 16 C16 rfl, ?_⟩
    refine ⟨_, rfl, e, C, _, _, b 17, rfl, .own C17, xi, hx, kb 17 C17 rfl, ?_⟩
    refine ⟨_, rfl, e, C, _, _, b 18, rfl, .own C18, xi, hx, kb 18 C18 rfl, ?_⟩
    refine ⟨_, rfl, e, C, _, _, b 19, rfl, .own C19, xi, hx, kb 19 C19 rfl, ?_⟩
    refine ⟨_, rfl, e, C, _, _, b 20, rfl, .own C20, xi, hx, kb 20 C20 rfl, ?_⟩
    refine ⟨_, rfl, e, C, _, _, b 21, rfl, .own C21, xi, hx, kb 21 C21 rfl, ?_⟩
    exact ⟨by show 22 ≤ sizeLine; decide, fun p hp => k p _ (Ex.new hp) upd_same⟩
abbrev sLaw : Stmt := top 30
theorem scLaw : FnScope ["_law_script", "_law_a", "_law_b", "_law_c", "_law_rows", "_law_at", "_law_error", "_law_actual", "_law_due", "_law_kinds_here", "_law_one"] ["_law_script"] (defScope sLaw) := ⟨rfl, rfl, rfl, by decide +kernel, rfl, by decide +kernel, by decide +kernel⟩
theorem ok_law {Cs Ds : List Addr} {f : Addr} {fd : FuncData} (F : Fun K "law" "law" sLaw f fd) (T : Txt K mg) (mA : mg "AnytuneError" = some (.ref CA)) (icA : PySem.W.isClsIn K CA = true) (tyA : PySem.W.typeIn K (.ref CA) = some (.type "type")) {ns : List Str} (EE : ECs K CA ns (Cs ++ Ds))
    (hkit : ∀ (i j : Nat) (C D : Addr), (Cs ++ Ds)[j]? = some C → (Cs ++ Ds)[i]? = some D → PySem.W.kitOne K (.ref C) (.ref D) = some (decide (i = j))) (h22 : (Cs ++ Ds).length = 22)
    (OC : Ok P w K mg base CX0 1 "_law_cell" ["_law_script", "_law_k"] (spCell K)) (OP : Ok P w K mg base CX0 4 "_law_pairs" ["_law_a", "_law_b", "_law_c"] (spPairs Cs)) (OS : Ok P w K mg base CX0 4 "_law_singles" ["_law_a"] (spSingles Ds)) (OK : Ok P w K mg base CX0 1 "_law_kinds" ["_law_error"] (spKinds K (Cs ++ Ds))) : FnOk P w K mg base CX0 6 f fd ["_law_script"] (spLaw K) := by
  obtain ⟨fCe, fdCe, GCe, mCe, kCe, bCe⟩ := OC
  obtain ⟨fPr, fdPr, GPr, mPr, kPr, bPr⟩ := OP
  obtain ⟨fSi, fdSi, GSi, mSi, kSi, bSi⟩ := OS
  obtain ⟨fKi, fdKi, GKi, mKi, kKi, bKi⟩ := OK
  refine F.ok scLaw (fun vs H Q E h => ?_) (fun cdv A outer s H vs Q E hr h => ?_)
  · obtain ⟨a, ns, rfl, _⟩ := h
    rfl
  · obtain ⟨l, ns, rfl, hS, hlen, hQ⟩ := h
    have hu : (cxOf CX0 P w K mg base ["_law_script", "_law_a", "_law_b", "_law_c", "_law_rows", "_law_at", "_law_error", "_law_actual", "_law_due", "_law_kinds_here", "_law_one"] "law" (defScope sLaw) f cdv A outer s H E).nox.A.units + 64 < cLine := hr.units
    refine ⟨_, (pss_cons (ps_set (i := 1) scLaw.nd rfl (Or.inl rfl) (pe_op op_mod (pe_callTy call_int1 rfl T.int PyProof.Rows.boot_int (pa_cons (pe_call GCe (hr.mono (by decide)) rfl mCe kCe bCe .nil pass0 (pa_cons (pv 0) (pa_cons pe_int pa_nil))) pa_nil)) (pe_op op_pow pe_int pe_int)))
 (pss_cons (ps_set (i := 2) scLaw.nd rfl (Or.inl rfl) (pe_op op_mod (pe_callTy call_int1 rfl T.int PyProof.Rows.boot_int (pa_cons (pe_call GCe (hr.mono (by decide)) rfl mCe kCe bCe .nil pass0 (pa_cons (pv 0) (pa_cons pe_int pa_nil))) pa_nil)) (pe_op op_pow pe_int pe_int)))
 (pss_cons (ps_set (i := 3) scLaw.nd rfl (Or.inl rfl) (pe_op op_mod (pe_callTy call_int1 rfl T.int PyProof.Rows.boot_int (pa_cons (pe_call GCe (hr.mono (by decide)) rfl mCe kCe bCe .nil pass0 (pa_cons (pv 0) (pa_cons pe_int pa_nil))) pa_nil)) (pe_op op_pow pe_int pe_int)))
 (pss_cons (ps_set (i := 4) scLaw.nd rfl (Or.inl rfl) (pe_op op_cat (pe_call GPr (hr.mono (by decide)) rfl mPr kPr bPr .nil pass0 (pa_cons (pv 1) (pa_cons (pv 2) (pa_cons (pv 3) pa_nil)))) (pe_call GSi (hr.mono (by decide)) rfl mSi kSi bSi .nil pass0 (pa_cons (pe_op op_sub (pv 2) (pv 3)) pa_nil))))
 (pss_cons (ps_for PassesOwn.never rfl (pi_range1 rfl T.range (pa_cons (pe_callB call_len rfl T.len PySem.boot_len (pa_cons (pv 4) pa_nil)) pa_nil)) (pg_name (i := 5) scLaw.nd rfl (Or.inl rfl)) (pss_cons (ps_asg (pe_ix ix_list (pv 4) (pv 5) (fun _ _ => rfl)) (pg_tup rfl (pgs_cons (pg_name (i := 6) scLaw.nd rfl (Or.inl rfl)) (pgs_cons (pg_name (i := 7) scLaw.nd rfl (Or.inl rfl)) (pgs_cons (pg_name (i := 8) scLaw.nd rfl (Or.inl rfl)) pgs_nil)))))
 (pss_cons (ps_if (PW.pt (pw_or (pt_cmpR (op_neD hu) (pv 7) (pv 8) (nomark _)) (pw_or (pt_not (pt_val (pe_callB (r := rIsiE K) call_isiE rfl T.isi PyProof.Rows.boot_isinstance (pa_cons (pv 6) (pa_cons (pe_glob (v := .ref CA) rfl mA rfl) pa_nil))))) (pw_or1 (pt_not (pt_val (pe_callB (r := rIsiE K) call_isiE rfl T.isi PyProof.Rows.boot_isinstance (pa_cons (pv 6) (pa_cons (pe_bltn (v := .ty "ValueError") rfl T.ve boot_ValueError rfl) pa_nil))))))))) (pss_one (ps_ret pe_bl)) pss_nil)
 (pss_cons (ps_set (i := 9) scLaw.nd rfl (Or.inl rfl) (pe_call GKi (hr.mono (by decide)) rfl mKi kKi bKi .nil pass0 (pa_cons (pv 6) pa_nil)))
 (pss_one (ps_if (PW.pt (pw_or (pt_not (pt_val (pe_ix ix_list (pv 9) (pv 5) (fun _ _ => rfl)))) (pw_or1 (pt_cmpR op_ne (pe_callB call_len rfl T.len PySem.boot_len (pa_cons (pe_lc (own := [("_law_one", 10)]) rfl scLaw.nd (pi_list (pv 9)) (blkOk_by (N := ["_law_script", "_law_a", "_law_b", "_law_c", "_law_rows", "_law_at", "_law_error", "_law_actual", "_law_due", "_law_kinds_here", "_law_one"]) (sc := defScope sLaw) (by decide +kernel)) (fun _ _ _ _ _ => pg_name (i := 10) scLaw.nd rfl (Or.inl rfl)) (fun _ _ _ _ _ => (pts_one (pt_val (pv 10)))) (fun _ _ _ _ _ => (pv 10))) pa_nil)) pe_int (nomark _))))) (pss_one (ps_ret pe_bl)) pss_nil))))))
 (pss_one (ps_ret pe_bl))))))), ?_⟩
    have pos60 : (0 : Int) < (10 : Int) ^ (60 : Int).toNat := by decide +kernel
    refine ⟨_, rfl, l, ns, 0, rfl, hS, by decide, hlen, fun z0 => .inl ⟨_, rfl, _, _, rfl, rfl, ⟨by decide, by decide, by decide⟩, _, _, rfl, rfl, pos60, ?_⟩⟩
    refine ⟨_, rfl, l, ns, 1, rfl, hS, by decide, hlen, fun z1 => .inl ⟨_, rfl, _, _, rfl, rfl, ⟨by decide, by decide, by decide⟩, _, _, rfl, rfl, pos60, ?_⟩⟩
    refine ⟨_, rfl, l, ns, 2, rfl, hS, by decide, hlen, fun z2 => .inl ⟨_, rfl, _, _, rfl, rfl, ⟨by decide, by decide, by decide⟩, _, _, rfl, rfl, pos60, ?_⟩⟩
    refine ⟨_, rfl, _, rfl, _, rfl, _, _, _, rfl, fun p xs H1 e1 hp hR => ?_⟩
    refine ⟨_, rfl, _, rfl, _, _, rfl, rfl, _, rfl, fun q ys H2 e2 hq hR2 => ?_⟩
    have hp2 := e2 _ _ hp
    have R := (hR.ex e2).app hR2
    have lx : (xs ++ ys).length = 22 := R.len.trans h22
    refine ⟨p, q, xs, ys, rfl, rfl, hp2, hq, (by rw [← List.length_append, lx]; decide), fun r hrn => ?_⟩
    have x := Ex.new (o := .lst (xs ++ ys)) hrn
    have R := R.ex x
    have hr2 := new_at x
    clear x hp hR e1 hp2 hq hR2
    generalize xs ++ ys = zs at *
    refine ⟨_, rfl, _, _, rfl, .inl ⟨_, SqL.of hr2, rfl⟩, ?_⟩
    refine ⟨(zs.length : Int), rfl, by omega, by omega, for_range (lo := 0) (n := ((zs.length : Int)).toNat) (fun i σ H' => ∃ va vb vc v5 v6 v7 v8 v9 : Option V, σ = [some (.ref l), va, vb, vc, some (.ref r), v5, v6, v7, v8, v9, none] ∧ H' r = some (.lst zs) ∧ Rows (Cs ++ Ds) zs H') ⟨_, _, _, none, none, none, none, none, rfl, hr2, R⟩ ?_ ?_⟩
    · clear R hr2
      rintro i σ H' hi ⟨va, vb, vc, v5, v6, v7, v8, v9, rfl, hr2, R⟩
      have e0 : (0 : Int) + (i : Int) = (i : Int) := Int.zero_add _
      rw [e0]
      have hi' : i < zs.length := by omega
      obtain ⟨C, x, hC, hx, hrow⟩ := R.get (i := i) hi'
      obtain ⟨tp, e, l1, l2, ns2, rfl, ht, hxe, h1, h2, h3⟩ := hrow
      obtain ⟨nm, hnm, EE1⟩ := EE.get hC
      refine ⟨_, rfl, _, rfl, r, _, _, .ref tp, rfl, rfl, SqL.of hr2, atI_nat hx, ?_⟩
      refine ⟨tp, _, rfl, SqT.of ht, rfl, ⟨_, _, rfl, ⟨_, _, rfl, ⟨_, _, rfl, ⟨rfl, ?_⟩⟩⟩⟩⟩
      refine ⟨_, rfl, _, rfl, dInts ns2, dInts ns2, dp_ints h1, dp_ints h2, shaped_ints h3, shaped_ints h3, _, rfl, iteB (by rw [eqv_ints]; rfl) ?_⟩
      refine ⟨_, rfl, e, C, _, _, true, rfl, .own CA, EE1.xi T.cg T.ct, hxe, EE1.kitA icA tyA, true, rfl, iteF ?_⟩
      refine ⟨_, rfl, e, C, _, _, true, rfl, .ty "ValueError", EE1.xi T.cg T.ct, hxe, EE1.kitT (by decide), true, rfl, iteF ?_⟩
      refine ⟨_, rfl, e, C, fun k => decide (k = i), rfl, EE1.xi T.cg T.ct, hxe, fun k D hD => hkit k i C D hC hD, fun q2 H3 e3 hq3 => ?_⟩
      have hi22 : i < 22 := by omega
      refine ⟨_, rfl, _, rfl, q2, _, _, .bl true, rfl, rfl, SqL.of hq3, atI_nat (by rw [List.getElem?_map, List.getElem?_range hi22]; show some (V.bl (decide (i = i))) = _; rw [decide_eq_true rfl]), true, rfl, iteF ?_⟩
      refine ⟨_, rfl, q2, rfl, ⟨_, SqL.of hq3⟩, fun D hD => lc_list (xs := _) (fun k H' => Ex H3 H' ∧ H' D = some (.lst (if i < k then [V.bl true] else []))) ⟨Ex.new hD, by rw [if_neg (by omega)]; exact upd_same⟩ (fun k H' _ z => SqL.of (z.1 _ _ hq3)) ?_ ?_⟩
      · rintro k x H' hk ⟨w1, w2⟩
        rw [List.getElem?_map] at hk
        obtain ⟨m, hm, rfl⟩ := Option.map_eq_some_iff.mp hk
        obtain ⟨hm1, hm2⟩ := List.getElem?_eq_some_iff.mp hm
        rw [List.getElem_range] at hm2
        subst hm2
        refine ⟨rfl, _, rfl, decide (k = i), rfl, ?_⟩
        refine ite2 (fun hki => ?_) (fun hki => ?_)
        · have hki := of_decide_eq_true hki
          refine ⟨_, rfl, [], by rw [w2, if_neg (by omega)], by decide, Evl.Ex.mut w1 hD, ?_⟩
          rw [upd_same, if_pos (by omega)]
          show some (HO.lst ([] ++ [V.bl (decide (k = i))])) = _
          rw [decide_eq_true hki]
          rfl
        · have hki : k ≠ i := fun z => hki (decide_eq_true z)
          refine ⟨w1, ?_⟩
          rw [w2]
          by_cases hlt : i < k
          · rw [if_pos hlt, if_pos (by omega)]
          · rw [if_neg hlt, if_neg (by omega)]
      · rintro H' ⟨w1, w2⟩
        rw [List.length_map, List.length_range, if_pos hi22] at w2
        refine ⟨_, _, rfl, .inl ⟨_, SqL.of w2, rfl⟩, rfl, _, rfl, iteB (by rfl) ?_⟩
        exact ⟨_, _, _, _, _, _, _, _, rfl, w1 _ _ (e3 _ _ hr2), (R.ex e3).ex w1⟩
    · rintro σ H' _
      exact hQ _
end
end Mo
namespace Mo
open PySem L2
theorem all_mk {P : Program} {w : World} {K : PySem.W.Frag} {h : Heap} {mg : Str → Option Value} {fa : Addr} (X : K.In h) (G : h.Ns mainGlobals mg) (hfa : mg "law" = some (.ref fa))
    {CA : Addr} {C0 N0 C1 N1 C2 N2 C3 N3 C4 N4 C5 N5 C6 N6 C7 N7 C8 N8 C9 N9 C10 N10 C11 N11 C12 N12 C13 N13 C14 N14 C15 N15 C16 N16 C17 N17 C18 N18 C19 N19 C20 N20 C21 N21 : Addr} {nmA qnA : Str} {bsA mrA : List Value} {nsA : Addr} {hhA : Bool} {snA : List Str} {sbA : List Value} {abA : Bool} {coA : Option Bool} {dlA : Bool}
    {nm0 q0_ nm1 q1_ nm2 q2_ nm3 q3_ nm4 q4_ nm5 q5_ nm6 q6_ nm7 q7_ nm8 q8_ nm9 q9_ nm10 q10_ nm11 q11_ nm12 q12_ nm13 q13_ nm14 q14_ nm15 q15_ nm16 q16_ nm17 q17_ nm18 q18_ nm19 q19_ nm20 q20_ nm21 q21_ : Str} {bs0 sub0 bs1 sub1 bs2 sub2 bs3 sub3 bs4 sub4 bs5 sub5 bs6 sub6 bs7 sub7 bs8 sub8 bs9 sub9 bs10 sub10 bs11 sub11 bs12 sub12 bs13 sub13 bs14 sub14 bs15 sub15 bs16 sub16 bs17 sub17 bs18 sub18 bs19 sub19 bs20 sub20 bs21 sub21 : List Value} {sn0 sn1 sn2 sn3 sn4 sn5 sn6 sn7 sn8 sn9 sn10 sn11 sn12 sn13 sn14 sn15 sn16 sn17 sn18 sn19 sn20 sn21 : List Str} {ab0 ab1 ab2 ab3 ab4 ab5 ab6 ab7 ab8 ab9 ab10 ab11 ab12 ab13 ab14 ab15 ab16 ab17 ab18 ab19 ab20 ab21 : Bool} {co0 co1 co2 co3 co4 co5 co6 co7 co8 co9 co10 co11 co12 co13 co14 co15 co16 co17 co18 co19 co20 co21 : Option Bool} {dd0 dd1 dd2 dd3 dd4 dd5 dd6 dd7 dd8 dd9 dd10 dd11 dd12 dd13 dd14 dd15 dd16 dd17 dd18 dd19 dd20 dd21 : Option Addr} {k0_0 k0_1 k0_2 k0_3 k0_5 k1_0 k1_1 k1_2 k1_3 k1_5 k2_0 k2_1 k2_2 k2_3 k2_5 k3_0 k3_1 k3_2 k3_3 k3_5 k4_0 k4_1 k4_2 k4_3 k4_5 k5_0 k5_1 k5_2 k5_3 k5_5 k6_0 k6_1 k6_2 k6_3 k6_5 k7_0 k7_1 k7_2 k7_3 k7_5 k8_0 k8_1 k8_2 k8_3 k8_5 k9_0 k9_1 k9_2 k9_3 k9_5 k10_0 k10_1 k10_2 k10_3 k10_5 k11_0 k11_1 k11_2 k11_3 k11_5 k12_0 k12_1 k12_2 k12_3 k12_5 k13_0 k13_1 k13_2 k13_3 k13_5 k14_0 k14_1 k14_2 k14_3 k14_5 k15_0 k15_1 k15_2 k15_3 k15_5 k16_0 k16_1 k16_2 k16_3 k16_5 k17_0 k17_1 k17_2 k17_3 k17_5 k18_0 k18_1 k18_2 k18_3 k18_5 k19_0 k19_1 k19_2 k19_3 k19_5 k20_0 k20_1 k20_2 k20_3 k20_5 k21_0 k21_1 k21_2 k21_3 k21_5 : Option Value}
    {fKp fCe fPr fSi fKi fLaw fI0 fI1 fI2 fI3 fI4 fI5 fI8 fI9 fI10 fI11 fI12 fI13 fI14 fI15 fI16 fI17 fI18 fI19 fI20 fI21 : Addr} {odKp anKp odCe anCe odPr anPr odSi anSi odKi anKi odLaw anLaw odI0 anI0 odI1 anI1 odI2 anI2 odI3 anI3 odI4 anI4 odI5 anI5 odI8 anI8 odI9 anI9 odI10 anI10 odI11 anI11 odI12 anI12 odI13 anI13 odI14 anI14 odI15 anI15 odI16 anI16 odI17 anI17 odI18 anI18 odI19 anI19 odI20 anI20 odI21 anI21 : Option Addr} {slKp slCe slPr slSi slKi slLaw slI0 slI1 slI2 slI3 slI4 slI5 slI8 slI9 slI10 slI11 slI12 slI13 slI14 slI15 slI16 slI17 slI18 slI19 slI20 slI21 : Array (Option Value)} {ocKp kVKp dcKp pmKp cdKp ctKp ocCe kVCe dcCe pmCe cdCe ctCe ocPr kVPr dcPr pmPr cdPr ctPr ocSi kVSi dcSi pmSi cdSi ctSi ocKi kVKi dcKi pmKi cdKi ctKi ocLaw kVLaw dcLaw pmLaw cdLaw ctLaw ocI0 kVI0 dcI0 pmI0 cdI0 ctI0 ocI1 kVI1 dcI1 pmI1 cdI1 ctI1 ocI2 kVI2 dcI2 pmI2 cdI2 ctI2 ocI3 kVI3 dcI3 pmI3 cdI3 ctI3 ocI4 kVI4 dcI4 pmI4 cdI4 ctI4 ocI5 kVI5 dcI5 pmI5 cdI5 ctI5 ocI8 kVI8 dcI8 pmI8 cdI8 ctI8 ocI9 kVI9 dcI9 pmI9 cdI9 ctI9 ocI10 kVI10 dcI10 pmI10 cdI10 ctI10 ocI11 kVI11 dcI11 pmI11 cdI11 ctI11 ocI12 kVI12 dcI12 pmI12 cdI12 ctI12 ocI13 kVI13 dcI13 pmI13 cdI13 ctI13 ocI14 kVI14 dcI14 pmI14 cdI14 ctI14 ocI15 kVI15 dcI15 pmI15 cdI15 ctI15 ocI16 kVI16 dcI16 pmI16 cdI16 ctI16 ocI17 kVI17 dcI17 pmI17 cdI17 ctI17 ocI18 kVI18 dcI18 pmI18 cdI18 ctI18 ocI19 kVI19 dcI19 pmI19 cdI19 ctI19 ocI20 kVI20 dcI20 pmI20 cdI20 ctI20 ocI21 kVI21 dcI21 pmI21 cdI21 ctI21 : Value}
    (aA : PySem.W.nsIn K mainGlobals "AnytuneError" = some (some (.ref CA)))
    (aC0 : PySem.W.nsIn K mainGlobals "NoMoment" = some (some (.ref C0)))
    (aC1 : PySem.W.nsIn K mainGlobals "NoMark" = some (some (.ref C1)))
    (aC2 : PySem.W.nsIn K mainGlobals "NoWindow" = some (some (.ref C2)))
    (aC3 : PySem.W.nsIn K mainGlobals "NoPace" = some (some (.ref C3)))
    (aC4 : PySem.W.nsIn K mainGlobals "Lost" = some (some (.ref C4)))
    (aC5 : PySem.W.nsIn K mainGlobals "LooksAhead" = some (some (.ref C5)))
    (aC6 : PySem.W.nsIn K mainGlobals "NoTurns" = some (some (.ref C6)))
    (aC7 : PySem.W.nsIn K mainGlobals "NotPlain" = some (some (.ref C7)))
    (aC8 : PySem.W.nsIn K mainGlobals "NoText" = some (some (.ref C8)))
    (aC9 : PySem.W.nsIn K mainGlobals "NoRounds" = some (some (.ref C9)))
    (aC10 : PySem.W.nsIn K mainGlobals "NoName" = some (some (.ref C10)))
    (aC11 : PySem.W.nsIn K mainGlobals "BadPace" = some (some (.ref C11)))
    (aC12 : PySem.W.nsIn K mainGlobals "NoStep" = some (some (.ref C12)))
    (aC13 : PySem.W.nsIn K mainGlobals "Unfilled" = some (some (.ref C13)))
    (aC14 : PySem.W.nsIn K mainGlobals "NoChart" = some (some (.ref C14)))
    (aC15 : PySem.W.nsIn K mainGlobals "TooSoon" = some (some (.ref C15)))
    (aC16 : PySem.W.nsIn K mainGlobals "NoStretch" = some (some (.ref C16)))
    (aC17 : PySem.W.nsIn K mainGlobals "OutOfWindow" = some (some (.ref C17)))
    (aC18 : PySem.W.nsIn K mainGlobals "NoMove" = some (some (.ref C18)))
    (aC19 : PySem.W.nsIn K mainGlobals "NoChannel" = some (some (.ref C19)))
    (aC20 : PySem.W.nsIn K mainGlobals "NoSpan" = some (some (.ref C20)))
    (aC21 : PySem.W.nsIn K mainGlobals "Ringed" = some (some (.ref C21)))
    (aKp : PySem.W.nsIn K mainGlobals "_kept" = some (some (.ref fKp)))
    (lKp : K.lookup fKp = some ⟨ocKp, odKp, .func (PySem.W.fnOf "_kept" "_kept" (defArgs sKp) (defBody sKp) (defScope sKp) .none kVKp dcKp pmKp anKp cdKp ctKp), slKp⟩)
    (cKp : PySem.W.codeIn K cdKp "_kept" = true)
    (kKp : PySem.W.keepIn K (.ref fKp) = true)
    (aCe : PySem.W.nsIn K mainGlobals "_law_cell" = some (some (.ref fCe)))
    (lCe : K.lookup fCe = some ⟨ocCe, odCe, .func (PySem.W.fnOf "_law_cell" "_law_cell" (defArgs sCe) (defBody sCe) (defScope sCe) .none kVCe dcCe pmCe anCe cdCe ctCe), slCe⟩)
    (cCe : PySem.W.codeIn K cdCe "_law_cell" = true)
    (kCe : PySem.W.keepIn K (.ref fCe) = true)
    (aPr : PySem.W.nsIn K mainGlobals "_law_pairs" = some (some (.ref fPr)))
    (lPr : K.lookup fPr = some ⟨ocPr, odPr, .func (PySem.W.fnOf "_law_pairs" "_law_pairs" (defArgs sPr) (defBody sPr) (defScope sPr) .none kVPr dcPr pmPr anPr cdPr ctPr), slPr⟩)
    (cPr : PySem.W.codeIn K cdPr "_law_pairs" = true)
    (kPr : PySem.W.keepIn K (.ref fPr) = true)
    (aSi : PySem.W.nsIn K mainGlobals "_law_singles" = some (some (.ref fSi)))
    (lSi : K.lookup fSi = some ⟨ocSi, odSi, .func (PySem.W.fnOf "_law_singles" "_law_singles" (defArgs sSi) (defBody sSi) (defScope sSi) .none kVSi dcSi pmSi anSi cdSi ctSi), slSi⟩)
    (cSi : PySem.W.codeIn K cdSi "_law_singles" = true)
    (kSi : PySem.W.keepIn K (.ref fSi) = true)
    (aKi : PySem.W.nsIn K mainGlobals "_law_kinds" = some (some (.ref fKi)))
    (lKi : K.lookup fKi = some ⟨ocKi, odKi, .func (PySem.W.fnOf "_law_kinds" "_law_kinds" (defArgs sKi) (defBody sKi) (defScope sKi) .none kVKi dcKi pmKi anKi cdKi ctKi), slKi⟩)
    (cKi : PySem.W.codeIn K cdKi "_law_kinds" = true)
    (kKi : PySem.W.keepIn K (.ref fKi) = true)
    (aLaw : PySem.W.nsIn K mainGlobals "law" = some (some (.ref fLaw)))
    (lLaw : K.lookup fLaw = some ⟨ocLaw, odLaw, .func (PySem.W.fnOf "law" "law" (defArgs sLaw) (defBody sLaw) (defScope sLaw) .none kVLaw dcLaw pmLaw anLaw cdLaw ctLaw), slLaw⟩)
    (cLaw : PySem.W.codeIn K cdLaw "law" = true)
    (kLaw : PySem.W.keepIn K (.ref fLaw) = true)
    (clsA : PySem.W.clsIn K CA = some { name := nmA, bases := bsA, mro := mrA, ns := nsA, qualname := qnA, hasDict := hhA, slotNames := snA, subclasses := sbA, abstract := abA, collection := coA, hasDel := dlA })
    (tyA : PySem.W.typeIn K (.ref CA) = some (.type "type"))
    (cg : PySem.W.specialIn K (.builtin "object.__class__") "__get__" = some (some (.builtin "getset_descriptor.__get__")))
    (ct : PySem.W.takesIn K (.builtin "object.__class__") = some true)
    (gLen : PySem.W.nsIn K mainGlobals "len" = some none)
    (gInt : PySem.W.nsIn K mainGlobals "int" = some none)
    (gIsi : PySem.W.nsIn K mainGlobals "isinstance" = some none)
    (gRange : PySem.W.nsIn K mainGlobals "range" = some none)
    (gLst : PySem.W.nsIn K mainGlobals "list" = some none)
    (gDct : PySem.W.nsIn K mainGlobals "dict" = some none)
    (gVe : PySem.W.nsIn K mainGlobals "ValueError" = some none)
    (x0 : K.lookup C0 = some (excClassObj nm0 q0_ C0 N0 bs0 [.ref CA, .type "ValueError", .type "Exception", .type "BaseException", .type "object"] true sn0 sub0 ab0 co0 dd0 k0_0 k0_1 k0_2 k0_3 k0_5 "ValueError.__new__"))
    (nn0 : nm0 = Str.ofString "NoMoment")
    (sa0 : PySem.W.findIn K (.ref C0) "__setattr__" = some (some (.builtin "object.__setattr__")))
    (ga0 : PySem.W.findIn K (.ref C0) "__getattribute__" = some (some (.builtin "BaseException.__getattribute__")))
    (gg0 : PySem.W.findIn K (.ref C0) "__getattr__" = some none)
    (cc0 : PySem.W.findIn K (.ref C0) "__class__" = some (some (.builtin "object.__class__")))
    (kc0 : PySem.W.keepIn K (.ref C0) = true)
    (aI0 : PySem.W.findIn K (.ref C0) "__init__" = some (some (.ref fI0)))
    (lI0 : K.lookup fI0 = some ⟨ocI0, odI0, .func (PySem.W.fnOf "__init__" "NoMoment.__init__" (defArgs s0) (defBody s0) (defScope s0) .none kVI0 dcI0 pmI0 anI0 cdI0 ctI0), slI0⟩)
    (cI0 : PySem.W.codeIn K cdI0 "NoMoment.__init__" = true)
    (kI0 : PySem.W.keepIn K (.ref fI0) = true)
    (tI0 : PySem.W.typeIn K (.ref fI0) = some (.type "function"))
    (n0_0 : PySem.W.findIn K (.ref C0) "top" = some none)
    (n0_1 : PySem.W.findIn K (.ref C0) "bottom" = some none)
    (x1 : K.lookup C1 = some (excClassObj nm1 q1_ C1 N1 bs1 [.ref CA, .type "ValueError", .type "Exception", .type "BaseException", .type "object"] true sn1 sub1 ab1 co1 dd1 k1_0 k1_1 k1_2 k1_3 k1_5 "ValueError.__new__"))
    (nn1 : nm1 = Str.ofString "NoMark")
    (sa1 : PySem.W.findIn K (.ref C1) "__setattr__" = some (some (.builtin "object.__setattr__")))
    (ga1 : PySem.W.findIn K (.ref C1) "__getattribute__" = some (some (.builtin "BaseException.__getattribute__")))
    (gg1 : PySem.W.findIn K (.ref C1) "__getattr__" = some none)
    (cc1 : PySem.W.findIn K (.ref C1) "__class__" = some (some (.builtin "object.__class__")))
    (kc1 : PySem.W.keepIn K (.ref C1) = true)
    (aI1 : PySem.W.findIn K (.ref C1) "__init__" = some (some (.ref fI1)))
    (lI1 : K.lookup fI1 = some ⟨ocI1, odI1, .func (PySem.W.fnOf "__init__" "NoMark.__init__" (defArgs s1) (defBody s1) (defScope s1) .none kVI1 dcI1 pmI1 anI1 cdI1 ctI1), slI1⟩)
    (cI1 : PySem.W.codeIn K cdI1 "NoMark.__init__" = true)
    (kI1 : PySem.W.keepIn K (.ref fI1) = true)
    (tI1 : PySem.W.typeIn K (.ref fI1) = some (.type "function"))
    (n1_0 : PySem.W.findIn K (.ref C1) "tone" = some none)
    (n1_1 : PySem.W.findIn K (.ref C1) "begin" = some none)
    (n1_2 : PySem.W.findIn K (.ref C1) "end" = some none)
    (x2 : K.lookup C2 = some (excClassObj nm2 q2_ C2 N2 bs2 [.ref CA, .type "ValueError", .type "Exception", .type "BaseException", .type "object"] true sn2 sub2 ab2 co2 dd2 k2_0 k2_1 k2_2 k2_3 k2_5 "ValueError.__new__"))
    (nn2 : nm2 = Str.ofString "NoWindow")
    (sa2 : PySem.W.findIn K (.ref C2) "__setattr__" = some (some (.builtin "object.__setattr__")))
    (ga2 : PySem.W.findIn K (.ref C2) "__getattribute__" = some (some (.builtin "BaseException.__getattribute__")))
    (gg2 : PySem.W.findIn K (.ref C2) "__getattr__" = some none)
    (cc2 : PySem.W.findIn K (.ref C2) "__class__" = some (some (.builtin "object.__class__")))
    (kc2 : PySem.W.keepIn K (.ref C2) = true)
    (aI2 : PySem.W.findIn K (.ref C2) "__init__" = some (some (.ref fI2)))
    (lI2 : K.lookup fI2 = some ⟨ocI2, odI2, .func (PySem.W.fnOf "__init__" "NoWindow.__init__" (defArgs s2) (defBody s2) (defScope s2) .none kVI2 dcI2 pmI2 anI2 cdI2 ctI2), slI2⟩)
    (cI2 : PySem.W.codeIn K cdI2 "NoWindow.__init__" = true)
    (kI2 : PySem.W.keepIn K (.ref fI2) = true)
    (tI2 : PySem.W.typeIn K (.ref fI2) = some (.type "function"))
    (n2_0 : PySem.W.findIn K (.ref C2) "begin" = some none)
    (n2_1 : PySem.W.findIn K (.ref C2) "end" = some none)
    (n2_2 : PySem.W.findIn K (.ref C2) "rounds" = some none)
    (x3 : K.lookup C3 = some (excClassObj nm3 q3_ C3 N3 bs3 [.ref CA, .type "ValueError", .type "Exception", .type "BaseException", .type "object"] true sn3 sub3 ab3 co3 dd3 k3_0 k3_1 k3_2 k3_3 k3_5 "ValueError.__new__"))
    (nn3 : nm3 = Str.ofString "NoPace")
    (sa3 : PySem.W.findIn K (.ref C3) "__setattr__" = some (some (.builtin "object.__setattr__")))
    (ga3 : PySem.W.findIn K (.ref C3) "__getattribute__" = some (some (.builtin "BaseException.__getattribute__")))
    (gg3 : PySem.W.findIn K (.ref C3) "__getattr__" = some none)
    (cc3 : PySem.W.findIn K (.ref C3) "__class__" = some (some (.builtin "object.__class__")))
    (kc3 : PySem.W.keepIn K (.ref C3) = true)
    (aI3 : PySem.W.findIn K (.ref C3) "__init__" = some (some (.ref fI3)))
    (lI3 : K.lookup fI3 = some ⟨ocI3, odI3, .func (PySem.W.fnOf "__init__" "NoPace.__init__" (defArgs s3) (defBody s3) (defScope s3) .none kVI3 dcI3 pmI3 anI3 cdI3 ctI3), slI3⟩)
    (cI3 : PySem.W.codeIn K cdI3 "NoPace.__init__" = true)
    (kI3 : PySem.W.keepIn K (.ref fI3) = true)
    (tI3 : PySem.W.typeIn K (.ref fI3) = some (.type "function"))
    (n3_0 : PySem.W.findIn K (.ref C3) "hole" = some none)
    (n3_1 : PySem.W.findIn K (.ref C3) "speed" = some none)
    (x4 : K.lookup C4 = some (excClassObj nm4 q4_ C4 N4 bs4 [.ref CA, .type "ValueError", .type "Exception", .type "BaseException", .type "object"] true sn4 sub4 ab4 co4 dd4 k4_0 k4_1 k4_2 k4_3 k4_5 "ValueError.__new__"))
    (nn4 : nm4 = Str.ofString "Lost")
    (sa4 : PySem.W.findIn K (.ref C4) "__setattr__" = some (some (.builtin "object.__setattr__")))
    (ga4 : PySem.W.findIn K (.ref C4) "__getattribute__" = some (some (.builtin "BaseException.__getattribute__")))
    (gg4 : PySem.W.findIn K (.ref C4) "__getattr__" = some none)
    (cc4 : PySem.W.findIn K (.ref C4) "__class__" = some (some (.builtin "object.__class__")))
    (kc4 : PySem.W.keepIn K (.ref C4) = true)
    (aI4 : PySem.W.findIn K (.ref C4) "__init__" = some (some (.ref fI4)))
    (lI4 : K.lookup fI4 = some ⟨ocI4, odI4, .func (PySem.W.fnOf "__init__" "Lost.__init__" (defArgs s4) (defBody s4) (defScope s4) .none kVI4 dcI4 pmI4 anI4 cdI4 ctI4), slI4⟩)
    (cI4 : PySem.W.codeIn K cdI4 "Lost.__init__" = true)
    (kI4 : PySem.W.keepIn K (.ref fI4) = true)
    (tI4 : PySem.W.typeIn K (.ref fI4) = some (.type "function"))
    (n4_0 : PySem.W.findIn K (.ref C4) "start" = some none)
    (n4_1 : PySem.W.findIn K (.ref C4) "stop" = some none)
    (x5 : K.lookup C5 = some (excClassObj nm5 q5_ C5 N5 bs5 [.ref CA, .type "ValueError", .type "Exception", .type "BaseException", .type "object"] true sn5 sub5 ab5 co5 dd5 k5_0 k5_1 k5_2 k5_3 k5_5 "ValueError.__new__"))
    (nn5 : nm5 = Str.ofString "LooksAhead")
    (sa5 : PySem.W.findIn K (.ref C5) "__setattr__" = some (some (.builtin "object.__setattr__")))
    (ga5 : PySem.W.findIn K (.ref C5) "__getattribute__" = some (some (.builtin "BaseException.__getattribute__")))
    (gg5 : PySem.W.findIn K (.ref C5) "__getattr__" = some none)
    (cc5 : PySem.W.findIn K (.ref C5) "__class__" = some (some (.builtin "object.__class__")))
    (kc5 : PySem.W.keepIn K (.ref C5) = true)
    (aI5 : PySem.W.findIn K (.ref C5) "__init__" = some (some (.ref fI5)))
    (lI5 : K.lookup fI5 = some ⟨ocI5, odI5, .func (PySem.W.fnOf "__init__" "LooksAhead.__init__" (defArgs s5) (defBody s5) (defScope s5) .none kVI5 dcI5 pmI5 anI5 cdI5 ctI5), slI5⟩)
    (cI5 : PySem.W.codeIn K cdI5 "LooksAhead.__init__" = true)
    (kI5 : PySem.W.keepIn K (.ref fI5) = true)
    (tI5 : PySem.W.typeIn K (.ref fI5) = some (.type "function"))
    (n5_0 : PySem.W.findIn K (.ref C5) "name" = some none)
    (n5_1 : PySem.W.findIn K (.ref C5) "hole" = some none)
    (x6 : K.lookup C6 = some (excClassObj nm6 q6_ C6 N6 bs6 [.ref CA, .type "ValueError", .type "Exception", .type "BaseException", .type "object"] true sn6 sub6 ab6 co6 dd6 k6_0 k6_1 k6_2 k6_3 k6_5 "ValueError.__new__"))
    (nn6 : nm6 = Str.ofString "NoTurns")
    (sa6 : PySem.W.findIn K (.ref C6) "__setattr__" = some (some (.builtin "object.__setattr__")))
    (ga6 : PySem.W.findIn K (.ref C6) "__getattribute__" = some (some (.builtin "BaseException.__getattribute__")))
    (gg6 : PySem.W.findIn K (.ref C6) "__getattr__" = some none)
    (cc6 : PySem.W.findIn K (.ref C6) "__class__" = some (some (.builtin "object.__class__")))
    (kc6 : PySem.W.keepIn K (.ref C6) = true)
    (q6 : PySem.W.excIn K C6 [.type "ValueError", .type "Exception", .type "BaseException", .type "object"] "ValueError.__new__" = true)
    (x7 : K.lookup C7 = some (excClassObj nm7 q7_ C7 N7 bs7 [.ref CA, .type "ValueError", .type "Exception", .type "BaseException", .type "object"] true sn7 sub7 ab7 co7 dd7 k7_0 k7_1 k7_2 k7_3 k7_5 "ValueError.__new__"))
    (nn7 : nm7 = Str.ofString "NotPlain")
    (sa7 : PySem.W.findIn K (.ref C7) "__setattr__" = some (some (.builtin "object.__setattr__")))
    (ga7 : PySem.W.findIn K (.ref C7) "__getattribute__" = some (some (.builtin "BaseException.__getattribute__")))
    (gg7 : PySem.W.findIn K (.ref C7) "__getattr__" = some none)
    (cc7 : PySem.W.findIn K (.ref C7) "__class__" = some (some (.builtin "object.__class__")))
    (kc7 : PySem.W.keepIn K (.ref C7) = true)
    (q7 : PySem.W.excIn K C7 [.type "ValueError", .type "Exception", .type "BaseException", .type "object"] "ValueError.__new__" = true)
    (x8 : K.lookup C8 = some (excClassObj nm8 q8_ C8 N8 bs8 [.ref CA, .type "ValueError", .type "Exception", .type "BaseException", .type "object"] true sn8 sub8 ab8 co8 dd8 k8_0 k8_1 k8_2 k8_3 k8_5 "ValueError.__new__"))
    (nn8 : nm8 = Str.ofString "NoText")
    (sa8 : PySem.W.findIn K (.ref C8) "__setattr__" = some (some (.builtin "object.__setattr__")))
    (ga8 : PySem.W.findIn K (.ref C8) "__getattribute__" = some (some (.builtin "BaseException.__getattribute__")))
    (gg8 : PySem.W.findIn K (.ref C8) "__getattr__" = some none)
    (cc8 : PySem.W.findIn K (.ref C8) "__class__" = some (some (.builtin "object.__class__")))
    (kc8 : PySem.W.keepIn K (.ref C8) = true)
    (aI8 : PySem.W.findIn K (.ref C8) "__init__" = some (some (.ref fI8)))
    (lI8 : K.lookup fI8 = some ⟨ocI8, odI8, .func (PySem.W.fnOf "__init__" "NoText.__init__" (defArgs s8) (defBody s8) (defScope s8) .none kVI8 dcI8 pmI8 anI8 cdI8 ctI8), slI8⟩)
    (cI8 : PySem.W.codeIn K cdI8 "NoText.__init__" = true)
    (kI8 : PySem.W.keepIn K (.ref fI8) = true)
    (tI8 : PySem.W.typeIn K (.ref fI8) = some (.type "function"))
    (n8_0 : PySem.W.findIn K (.ref C8) "text" = some none)
    (x9 : K.lookup C9 = some (excClassObj nm9 q9_ C9 N9 bs9 [.ref CA, .type "ValueError", .type "Exception", .type "BaseException", .type "object"] true sn9 sub9 ab9 co9 dd9 k9_0 k9_1 k9_2 k9_3 k9_5 "ValueError.__new__"))
    (nn9 : nm9 = Str.ofString "NoRounds")
    (sa9 : PySem.W.findIn K (.ref C9) "__setattr__" = some (some (.builtin "object.__setattr__")))
    (ga9 : PySem.W.findIn K (.ref C9) "__getattribute__" = some (some (.builtin "BaseException.__getattribute__")))
    (gg9 : PySem.W.findIn K (.ref C9) "__getattr__" = some none)
    (cc9 : PySem.W.findIn K (.ref C9) "__class__" = some (some (.builtin "object.__class__")))
    (kc9 : PySem.W.keepIn K (.ref C9) = true)
    (aI9 : PySem.W.findIn K (.ref C9) "__init__" = some (some (.ref fI9)))
    (lI9 : K.lookup fI9 = some ⟨ocI9, odI9, .func (PySem.W.fnOf "__init__" "NoRounds.__init__" (defArgs s9) (defBody s9) (defScope s9) .none kVI9 dcI9 pmI9 anI9 cdI9 ctI9), slI9⟩)
    (cI9 : PySem.W.codeIn K cdI9 "NoRounds.__init__" = true)
    (kI9 : PySem.W.keepIn K (.ref fI9) = true)
    (tI9 : PySem.W.typeIn K (.ref fI9) = some (.type "function"))
    (n9_0 : PySem.W.findIn K (.ref C9) "rounds" = some none)
    (x10 : K.lookup C10 = some (excClassObj nm10 q10_ C10 N10 bs10 [.ref CA, .type "ValueError", .type "Exception", .type "BaseException", .type "object"] true sn10 sub10 ab10 co10 dd10 k10_0 k10_1 k10_2 k10_3 k10_5 "ValueError.__new__"))
    (nn10 : nm10 = Str.ofString "NoName")
    (sa10 : PySem.W.findIn K (.ref C10) "__setattr__" = some (some (.builtin "object.__setattr__")))
    (ga10 : PySem.W.findIn K (.ref C10) "__getattribute__" = some (some (.builtin "BaseException.__getattribute__")))
    (gg10 : PySem.W.findIn K (.ref C10) "__getattr__" = some none)
    (cc10 : PySem.W.findIn K (.ref C10) "__class__" = some (some (.builtin "object.__class__")))
    (kc10 : PySem.W.keepIn K (.ref C10) = true)
    (aI10 : PySem.W.findIn K (.ref C10) "__init__" = some (some (.ref fI10)))
    (lI10 : K.lookup fI10 = some ⟨ocI10, odI10, .func (PySem.W.fnOf "__init__" "NoName.__init__" (defArgs s10) (defBody s10) (defScope s10) .none kVI10 dcI10 pmI10 anI10 cdI10 ctI10), slI10⟩)
    (cI10 : PySem.W.codeIn K cdI10 "NoName.__init__" = true)
    (kI10 : PySem.W.keepIn K (.ref fI10) = true)
    (tI10 : PySem.W.typeIn K (.ref fI10) = some (.type "function"))
    (n10_0 : PySem.W.findIn K (.ref C10) "name" = some none)
    (x11 : K.lookup C11 = some (excClassObj nm11 q11_ C11 N11 bs11 [.ref CA, .type "ValueError", .type "Exception", .type "BaseException", .type "object"] true sn11 sub11 ab11 co11 dd11 k11_0 k11_1 k11_2 k11_3 k11_5 "ValueError.__new__"))
    (nn11 : nm11 = Str.ofString "BadPace")
    (sa11 : PySem.W.findIn K (.ref C11) "__setattr__" = some (some (.builtin "object.__setattr__")))
    (ga11 : PySem.W.findIn K (.ref C11) "__getattribute__" = some (some (.builtin "BaseException.__getattribute__")))
    (gg11 : PySem.W.findIn K (.ref C11) "__getattr__" = some none)
    (cc11 : PySem.W.findIn K (.ref C11) "__class__" = some (some (.builtin "object.__class__")))
    (kc11 : PySem.W.keepIn K (.ref C11) = true)
    (aI11 : PySem.W.findIn K (.ref C11) "__init__" = some (some (.ref fI11)))
    (lI11 : K.lookup fI11 = some ⟨ocI11, odI11, .func (PySem.W.fnOf "__init__" "BadPace.__init__" (defArgs s11) (defBody s11) (defScope s11) .none kVI11 dcI11 pmI11 anI11 cdI11 ctI11), slI11⟩)
    (cI11 : PySem.W.codeIn K cdI11 "BadPace.__init__" = true)
    (kI11 : PySem.W.keepIn K (.ref fI11) = true)
    (tI11 : PySem.W.typeIn K (.ref fI11) = some (.type "function"))
    (n11_0 : PySem.W.findIn K (.ref C11) "pace" = some none)
    (x12 : K.lookup C12 = some (excClassObj nm12 q12_ C12 N12 bs12 [.ref CA, .type "ValueError", .type "Exception", .type "BaseException", .type "object"] true sn12 sub12 ab12 co12 dd12 k12_0 k12_1 k12_2 k12_3 k12_5 "ValueError.__new__"))
    (nn12 : nm12 = Str.ofString "NoStep")
    (sa12 : PySem.W.findIn K (.ref C12) "__setattr__" = some (some (.builtin "object.__setattr__")))
    (ga12 : PySem.W.findIn K (.ref C12) "__getattribute__" = some (some (.builtin "BaseException.__getattribute__")))
    (gg12 : PySem.W.findIn K (.ref C12) "__getattr__" = some none)
    (cc12 : PySem.W.findIn K (.ref C12) "__class__" = some (some (.builtin "object.__class__")))
    (kc12 : PySem.W.keepIn K (.ref C12) = true)
    (aI12 : PySem.W.findIn K (.ref C12) "__init__" = some (some (.ref fI12)))
    (lI12 : K.lookup fI12 = some ⟨ocI12, odI12, .func (PySem.W.fnOf "__init__" "NoStep.__init__" (defArgs s12) (defBody s12) (defScope s12) .none kVI12 dcI12 pmI12 anI12 cdI12 ctI12), slI12⟩)
    (cI12 : PySem.W.codeIn K cdI12 "NoStep.__init__" = true)
    (kI12 : PySem.W.keepIn K (.ref fI12) = true)
    (tI12 : PySem.W.typeIn K (.ref fI12) = some (.type "function"))
    (n12_0 : PySem.W.findIn K (.ref C12) "step" = some none)
    (x13 : K.lookup C13 = some (excClassObj nm13 q13_ C13 N13 bs13 [.ref CA, .type "ValueError", .type "Exception", .type "BaseException", .type "object"] true sn13 sub13 ab13 co13 dd13 k13_0 k13_1 k13_2 k13_3 k13_5 "ValueError.__new__"))
    (nn13 : nm13 = Str.ofString "Unfilled")
    (sa13 : PySem.W.findIn K (.ref C13) "__setattr__" = some (some (.builtin "object.__setattr__")))
    (ga13 : PySem.W.findIn K (.ref C13) "__getattribute__" = some (some (.builtin "BaseException.__getattribute__")))
    (gg13 : PySem.W.findIn K (.ref C13) "__getattr__" = some none)
    (cc13 : PySem.W.findIn K (.ref C13) "__class__" = some (some (.builtin "object.__class__")))
    (kc13 : PySem.W.keepIn K (.ref C13) = true)
    (aI13 : PySem.W.findIn K (.ref C13) "__init__" = some (some (.ref fI13)))
    (lI13 : K.lookup fI13 = some ⟨ocI13, odI13, .func (PySem.W.fnOf "__init__" "Unfilled.__init__" (defArgs s13) (defBody s13) (defScope s13) .none kVI13 dcI13 pmI13 anI13 cdI13 ctI13), slI13⟩)
    (cI13 : PySem.W.codeIn K cdI13 "Unfilled.__init__" = true)
    (kI13 : PySem.W.keepIn K (.ref fI13) = true)
    (tI13 : PySem.W.typeIn K (.ref fI13) = some (.type "function"))
    (n13_0 : PySem.W.findIn K (.ref C13) "name" = some none)
    (x14 : K.lookup C14 = some (excClassObj nm14 q14_ C14 N14 bs14 [.ref CA, .type "ValueError", .type "Exception", .type "BaseException", .type "object"] true sn14 sub14 ab14 co14 dd14 k14_0 k14_1 k14_2 k14_3 k14_5 "ValueError.__new__"))
    (nn14 : nm14 = Str.ofString "NoChart")
    (sa14 : PySem.W.findIn K (.ref C14) "__setattr__" = some (some (.builtin "object.__setattr__")))
    (ga14 : PySem.W.findIn K (.ref C14) "__getattribute__" = some (some (.builtin "BaseException.__getattribute__")))
    (gg14 : PySem.W.findIn K (.ref C14) "__getattr__" = some none)
    (cc14 : PySem.W.findIn K (.ref C14) "__class__" = some (some (.builtin "object.__class__")))
    (kc14 : PySem.W.keepIn K (.ref C14) = true)
    (aI14 : PySem.W.findIn K (.ref C14) "__init__" = some (some (.ref fI14)))
    (lI14 : K.lookup fI14 = some ⟨ocI14, odI14, .func (PySem.W.fnOf "__init__" "NoChart.__init__" (defArgs s14) (defBody s14) (defScope s14) .none kVI14 dcI14 pmI14 anI14 cdI14 ctI14), slI14⟩)
    (cI14 : PySem.W.codeIn K cdI14 "NoChart.__init__" = true)
    (kI14 : PySem.W.keepIn K (.ref fI14) = true)
    (tI14 : PySem.W.typeIn K (.ref fI14) = some (.type "function"))
    (n14_0 : PySem.W.findIn K (.ref C14) "line" = some none)
    (x15 : K.lookup C15 = some (excClassObj nm15 q15_ C15 N15 bs15 [.ref CA, .type "ValueError", .type "Exception", .type "BaseException", .type "object"] true sn15 sub15 ab15 co15 dd15 k15_0 k15_1 k15_2 k15_3 k15_5 "ValueError.__new__"))
    (nn15 : nm15 = Str.ofString "TooSoon")
    (sa15 : PySem.W.findIn K (.ref C15) "__setattr__" = some (some (.builtin "object.__setattr__")))
    (ga15 : PySem.W.findIn K (.ref C15) "__getattribute__" = some (some (.builtin "BaseException.__getattribute__")))
    (gg15 : PySem.W.findIn K (.ref C15) "__getattr__" = some none)
    (cc15 : PySem.W.findIn K (.ref C15) "__class__" = some (some (.builtin "object.__class__")))
    (kc15 : PySem.W.keepIn K (.ref C15) = true)
    (aI15 : PySem.W.findIn K (.ref C15) "__init__" = some (some (.ref fI15)))
    (lI15 : K.lookup fI15 = some ⟨ocI15, odI15, .func (PySem.W.fnOf "__init__" "TooSoon.__init__" (defArgs s15) (defBody s15) (defScope s15) .none kVI15 dcI15 pmI15 anI15 cdI15 ctI15), slI15⟩)
    (cI15 : PySem.W.codeIn K cdI15 "TooSoon.__init__" = true)
    (kI15 : PySem.W.keepIn K (.ref fI15) = true)
    (tI15 : PySem.W.typeIn K (.ref fI15) = some (.type "function"))
    (n15_0 : PySem.W.findIn K (.ref C15) "least" = some none)
    (x16 : K.lookup C16 = some (excClassObj nm16 q16_ C16 N16 bs16 [.ref CA, .type "ValueError", .type "Exception", .type "BaseException", .type "object"] true sn16 sub16 ab16 co16 dd16 k16_0 k16_1 k16_2 k16_3 k16_5 "ValueError.__new__"))
    (nn16 : nm16 = Str.ofString "NoStretch")
    (sa16 : PySem.W.findIn K (.ref C16) "__setattr__" = some (some (.builtin "object.__setattr__")))
    (ga16 : PySem.W.findIn K (.ref C16) "__getattribute__" = some (some (.builtin "BaseException.__getattribute__")))
    (gg16 : PySem.W.findIn K (.ref C16) "__getattr__" = some none)
    (cc16 : PySem.W.findIn K (.ref C16) "__class__" = some (some (.builtin "object.__class__")))
    (kc16 : PySem.W.keepIn K (.ref C16) = true)
    (aI16 : PySem.W.findIn K (.ref C16) "__init__" = some (some (.ref fI16)))
    (lI16 : K.lookup fI16 = some ⟨ocI16, odI16, .func (PySem.W.fnOf "__init__" "NoStretch.__init__" (defArgs s16) (defBody s16) (defScope s16) .none kVI16 dcI16 pmI16 anI16 cdI16 ctI16), slI16⟩)
    (cI16 : PySem.W.codeIn K cdI16 "NoStretch.__init__" = true)
    (kI16 : PySem.W.keepIn K (.ref fI16) = true)
    (tI16 : PySem.W.typeIn K (.ref fI16) = some (.type "function"))
    (n16_0 : PySem.W.findIn K (.ref C16) "until" = some none)
    (x17 : K.lookup C17 = some (excClassObj nm17 q17_ C17 N17 bs17 [.ref CA, .type "ValueError", .type "Exception", .type "BaseException", .type "object"] true sn17 sub17 ab17 co17 dd17 k17_0 k17_1 k17_2 k17_3 k17_5 "ValueError.__new__"))
    (nn17 : nm17 = Str.ofString "OutOfWindow")
    (sa17 : PySem.W.findIn K (.ref C17) "__setattr__" = some (some (.builtin "object.__setattr__")))
    (ga17 : PySem.W.findIn K (.ref C17) "__getattribute__" = some (some (.builtin "BaseException.__getattribute__")))
    (gg17 : PySem.W.findIn K (.ref C17) "__getattr__" = some none)
    (cc17 : PySem.W.findIn K (.ref C17) "__class__" = some (some (.builtin "object.__class__")))
    (kc17 : PySem.W.keepIn K (.ref C17) = true)
    (aI17 : PySem.W.findIn K (.ref C17) "__init__" = some (some (.ref fI17)))
    (lI17 : K.lookup fI17 = some ⟨ocI17, odI17, .func (PySem.W.fnOf "__init__" "OutOfWindow.__init__" (defArgs s17) (defBody s17) (defScope s17) .none kVI17 dcI17 pmI17 anI17 cdI17 ctI17), slI17⟩)
    (cI17 : PySem.W.codeIn K cdI17 "OutOfWindow.__init__" = true)
    (kI17 : PySem.W.keepIn K (.ref fI17) = true)
    (tI17 : PySem.W.typeIn K (.ref fI17) = some (.type "function"))
    (n17_0 : PySem.W.findIn K (.ref C17) "name" = some none)
    (x18 : K.lookup C18 = some (excClassObj nm18 q18_ C18 N18 bs18 [.ref CA, .type "ValueError", .type "Exception", .type "BaseException", .type "object"] true sn18 sub18 ab18 co18 dd18 k18_0 k18_1 k18_2 k18_3 k18_5 "ValueError.__new__"))
    (nn18 : nm18 = Str.ofString "NoMove")
    (sa18 : PySem.W.findIn K (.ref C18) "__setattr__" = some (some (.builtin "object.__setattr__")))
    (ga18 : PySem.W.findIn K (.ref C18) "__getattribute__" = some (some (.builtin "BaseException.__getattribute__")))
    (gg18 : PySem.W.findIn K (.ref C18) "__getattr__" = some none)
    (cc18 : PySem.W.findIn K (.ref C18) "__class__" = some (some (.builtin "object.__class__")))
    (kc18 : PySem.W.keepIn K (.ref C18) = true)
    (aI18 : PySem.W.findIn K (.ref C18) "__init__" = some (some (.ref fI18)))
    (lI18 : K.lookup fI18 = some ⟨ocI18, odI18, .func (PySem.W.fnOf "__init__" "NoMove.__init__" (defArgs s18) (defBody s18) (defScope s18) .none kVI18 dcI18 pmI18 anI18 cdI18 ctI18), slI18⟩)
    (cI18 : PySem.W.codeIn K cdI18 "NoMove.__init__" = true)
    (kI18 : PySem.W.keepIn K (.ref fI18) = true)
    (tI18 : PySem.W.typeIn K (.ref fI18) = some (.type "function"))
    (n18_0 : PySem.W.findIn K (.ref C18) "begin" = some none)
    (x19 : K.lookup C19 = some (excClassObj nm19 q19_ C19 N19 bs19 [.ref CA, .type "ValueError", .type "Exception", .type "BaseException", .type "object"] true sn19 sub19 ab19 co19 dd19 k19_0 k19_1 k19_2 k19_3 k19_5 "ValueError.__new__"))
    (nn19 : nm19 = Str.ofString "NoChannel")
    (sa19 : PySem.W.findIn K (.ref C19) "__setattr__" = some (some (.builtin "object.__setattr__")))
    (ga19 : PySem.W.findIn K (.ref C19) "__getattribute__" = some (some (.builtin "BaseException.__getattribute__")))
    (gg19 : PySem.W.findIn K (.ref C19) "__getattr__" = some none)
    (cc19 : PySem.W.findIn K (.ref C19) "__class__" = some (some (.builtin "object.__class__")))
    (kc19 : PySem.W.keepIn K (.ref C19) = true)
    (aI19 : PySem.W.findIn K (.ref C19) "__init__" = some (some (.ref fI19)))
    (lI19 : K.lookup fI19 = some ⟨ocI19, odI19, .func (PySem.W.fnOf "__init__" "NoChannel.__init__" (defArgs s19) (defBody s19) (defScope s19) .none kVI19 dcI19 pmI19 anI19 cdI19 ctI19), slI19⟩)
    (cI19 : PySem.W.codeIn K cdI19 "NoChannel.__init__" = true)
    (kI19 : PySem.W.keepIn K (.ref fI19) = true)
    (tI19 : PySem.W.typeIn K (.ref fI19) = some (.type "function"))
    (n19_0 : PySem.W.findIn K (.ref C19) "name" = some none)
    (x20 : K.lookup C20 = some (excClassObj nm20 q20_ C20 N20 bs20 [.ref CA, .type "ValueError", .type "Exception", .type "BaseException", .type "object"] true sn20 sub20 ab20 co20 dd20 k20_0 k20_1 k20_2 k20_3 k20_5 "ValueError.__new__"))
    (nn20 : nm20 = Str.ofString "NoSpan")
    (sa20 : PySem.W.findIn K (.ref C20) "__setattr__" = some (some (.builtin "object.__setattr__")))
    (ga20 : PySem.W.findIn K (.ref C20) "__getattribute__" = some (some (.builtin "BaseException.__getattribute__")))
    (gg20 : PySem.W.findIn K (.ref C20) "__getattr__" = some none)
    (cc20 : PySem.W.findIn K (.ref C20) "__class__" = some (some (.builtin "object.__class__")))
    (kc20 : PySem.W.keepIn K (.ref C20) = true)
    (aI20 : PySem.W.findIn K (.ref C20) "__init__" = some (some (.ref fI20)))
    (lI20 : K.lookup fI20 = some ⟨ocI20, odI20, .func (PySem.W.fnOf "__init__" "NoSpan.__init__" (defArgs s20) (defBody s20) (defScope s20) .none kVI20 dcI20 pmI20 anI20 cdI20 ctI20), slI20⟩)
    (cI20 : PySem.W.codeIn K cdI20 "NoSpan.__init__" = true)
    (kI20 : PySem.W.keepIn K (.ref fI20) = true)
    (tI20 : PySem.W.typeIn K (.ref fI20) = some (.type "function"))
    (n20_0 : PySem.W.findIn K (.ref C20) "span" = some none)
    (x21 : K.lookup C21 = some (excClassObj nm21 q21_ C21 N21 bs21 [.ref CA, .type "ValueError", .type "Exception", .type "BaseException", .type "object"] true sn21 sub21 ab21 co21 dd21 k21_0 k21_1 k21_2 k21_3 k21_5 "ValueError.__new__"))
    (nn21 : nm21 = Str.ofString "Ringed")
    (sa21 : PySem.W.findIn K (.ref C21) "__setattr__" = some (some (.builtin "object.__setattr__")))
    (ga21 : PySem.W.findIn K (.ref C21) "__getattribute__" = some (some (.builtin "BaseException.__getattribute__")))
    (gg21 : PySem.W.findIn K (.ref C21) "__getattr__" = some none)
    (cc21 : PySem.W.findIn K (.ref C21) "__class__" = some (some (.builtin "object.__class__")))
    (kc21 : PySem.W.keepIn K (.ref C21) = true)
    (aI21 : PySem.W.findIn K (.ref C21) "__init__" = some (some (.ref fI21)))
    (lI21 : K.lookup fI21 = some ⟨ocI21, odI21, .func (PySem.W.fnOf "__init__" "Ringed.__init__" (defArgs s21) (defBody s21) (defScope s21) .none kVI21 dcI21 pmI21 anI21 cdI21 ctI21), slI21⟩)
    (cI21 : PySem.W.codeIn K cdI21 "Ringed.__init__" = true)
    (kI21 : PySem.W.keepIn K (.ref fI21) = true)
    (tI21 : PySem.W.typeIn K (.ref fI21) = some (.type "function"))
    (n21_0 : PySem.W.findIn K (.ref C21) "ring" = some none)
    (nnA : nmA = Str.ofString "AnytuneError") :
    ∃ fd : FuncData, (∀ (s : Shared) (u : Value), BindsTo s fd ⟨[u], []⟩ [("_law_script", u)]) ∧ ∀ base : Heap, K.In base → base.Ns mainGlobals mg → FnOk P w K mg base CX0 6 fa fd ["_law_script"] (spLaw K) := by
  have e := hfa.symm.trans (PySem.W.mg_of X G aLaw)
  cases e
  subst nnA
  subst nn0
  subst nn1
  subst nn2
  subst nn3
  subst nn4
  subst nn5
  subst nn6
  subst nn7
  subst nn8
  subst nn9
  subst nn10
  subst nn11
  subst nn12
  subst nn13
  subst nn14
  subst nn15
  subst nn16
  subst nn17
  subst nn18
  subst nn19
  subst nn20
  subst nn21
  have FKp := fun_mk (st := sKp) lKp cKp kKp
  have FCe := fun_mk (st := sCe) lCe cCe kCe
  have FPr := fun_mk (st := sPr) lPr cPr kPr
  have FSi := fun_mk (st := sSi) lSi cSi kSi
  have FKi := fun_mk (st := sKi) lKi cKi kKi
  have FLaw := fun_mk (st := sLaw) lLaw cLaw kLaw
  have FI0 := fun_mk (st := s0) lI0 cI0 kI0
  have FI1 := fun_mk (st := s1) lI1 cI1 kI1
  have FI2 := fun_mk (st := s2) lI2 cI2 kI2
  have FI3 := fun_mk (st := s3) lI3 cI3 kI3
  have FI4 := fun_mk (st := s4) lI4 cI4 kI4
  have FI5 := fun_mk (st := s5) lI5 cI5 kI5
  have FI8 := fun_mk (st := s8) lI8 cI8 kI8
  have FI9 := fun_mk (st := s9) lI9 cI9 kI9
  have FI10 := fun_mk (st := s10) lI10 cI10 kI10
  have FI11 := fun_mk (st := s11) lI11 cI11 kI11
  have FI12 := fun_mk (st := s12) lI12 cI12 kI12
  have FI13 := fun_mk (st := s13) lI13 cI13 kI13
  have FI14 := fun_mk (st := s14) lI14 cI14 kI14
  have FI15 := fun_mk (st := s15) lI15 cI15 kI15
  have FI16 := fun_mk (st := s16) lI16 cI16 kI16
  have FI17 := fun_mk (st := s17) lI17 cI17 kI17
  have FI18 := fun_mk (st := s18) lI18 cI18 kI18
  have FI19 := fun_mk (st := s19) lI19 cI19 kI19
  have FI20 := fun_mk (st := s20) lI20 cI20 kI20
  have FI21 := fun_mk (st := s21) lI21 cI21 kI21
  have bKp := FKp.binds (ps := ["value"]) fun _ _ _ _ _ _ us hl => match us, hl with | [_], _ => rfl
  have bCe := FCe.binds (ps := ["_law_script", "_law_k"]) fun _ _ _ _ _ _ us hl => match us, hl with | [_, _], _ => rfl
  have bPr := FPr.binds (ps := ["_law_a", "_law_b", "_law_c"]) fun _ _ _ _ _ _ us hl => match us, hl with | [_, _, _], _ => rfl
  have bSi := FSi.binds (ps := ["_law_a"]) fun _ _ _ _ _ _ us hl => match us, hl with | [_], _ => rfl
  have bKi := FKi.binds (ps := ["_law_error"]) fun _ _ _ _ _ _ us hl => match us, hl with | [_], _ => rfl
  have bI0 := FI0.binds (ps := ["self", "top", "bottom"]) fun _ _ _ _ _ _ us hl => match us, hl with | [_, _, _], _ => rfl
  have bI1 := FI1.binds (ps := ["self", "tone", "begin", "end"]) fun _ _ _ _ _ _ us hl => match us, hl with | [_, _, _, _], _ => rfl
  have bI2 := FI2.binds (ps := ["self", "begin", "end", "rounds"]) fun _ _ _ _ _ _ us hl => match us, hl with | [_, _, _, _], _ => rfl
  have bI3 := FI3.binds (ps := ["self", "hole", "speed"]) fun _ _ _ _ _ _ us hl => match us, hl with | [_, _, _], _ => rfl
  have bI4 := FI4.binds (ps := ["self", "start", "stop"]) fun _ _ _ _ _ _ us hl => match us, hl with | [_, _, _], _ => rfl
  have bI5 := FI5.binds (ps := ["self", "name", "hole"]) fun _ _ _ _ _ _ us hl => match us, hl with | [_, _, _], _ => rfl
  have bI8 := FI8.binds (ps := ["self", "text"]) fun _ _ _ _ _ _ us hl => match us, hl with | [_, _], _ => rfl
  have bI9 := FI9.binds (ps := ["self", "rounds"]) fun _ _ _ _ _ _ us hl => match us, hl with | [_, _], _ => rfl
  have bI10 := FI10.binds (ps := ["self", "name"]) fun _ _ _ _ _ _ us hl => match us, hl with | [_, _], _ => rfl
  have bI11 := FI11.binds (ps := ["self", "pace"]) fun _ _ _ _ _ _ us hl => match us, hl with | [_, _], _ => rfl
  have bI12 := FI12.binds (ps := ["self", "step"]) fun _ _ _ _ _ _ us hl => match us, hl with | [_, _], _ => rfl
  have bI13 := FI13.binds (ps := ["self", "name"]) fun _ _ _ _ _ _ us hl => match us, hl with | [_, _], _ => rfl
  have bI14 := FI14.binds (ps := ["self", "line"]) fun _ _ _ _ _ _ us hl => match us, hl with | [_, _], _ => rfl
  have bI15 := FI15.binds (ps := ["self", "least"]) fun _ _ _ _ _ _ us hl => match us, hl with | [_, _], _ => rfl
  have bI16 := FI16.binds (ps := ["self", "until"]) fun _ _ _ _ _ _ us hl => match us, hl with | [_, _], _ => rfl
  have bI17 := FI17.binds (ps := ["self", "name"]) fun _ _ _ _ _ _ us hl => match us, hl with | [_, _], _ => rfl
  have bI18 := FI18.binds (ps := ["self", "begin"]) fun _ _ _ _ _ _ us hl => match us, hl with | [_, _], _ => rfl
  have bI19 := FI19.binds (ps := ["self", "name"]) fun _ _ _ _ _ _ us hl => match us, hl with | [_, _], _ => rfl
  have bI20 := FI20.binds (ps := ["self", "span"]) fun _ _ _ _ _ _ us hl => match us, hl with | [_, _], _ => rfl
  have bI21 := FI21.binds (ps := ["self", "ring"]) fun _ _ _ _ _ _ us hl => match us, hl with | [_, _], _ => rfl
  have T : Txt K mg := ⟨PySem.W.mg_none_of X G gLen, PySem.W.mg_none_of X G gInt, PySem.W.mg_none_of X G gIsi, PySem.W.mg_none_of X G gRange, PySem.W.mg_none_of X G gLst, PySem.W.mg_none_of X G gDct, PySem.W.mg_none_of X G gVe, cg, ct⟩
  refine ⟨PySem.W.fnOf "law" "law" (defArgs sLaw) (defBody sLaw) (defScope sLaw) .none kVLaw dcLaw pmLaw anLaw cdLaw ctLaw, fun s v => .of_eq rfl, fun base _ _ => ?_⟩
  have OKp : Ok P w K mg base CX0 1 "_kept" _ (spKept K) := ⟨_, _, ok_kept FKp T, PySem.W.mg_of X G aKp, kKp, bKp⟩
  have OC : Ok P w K mg base CX0 1 "_law_cell" _ (spCell K) := ⟨_, _, ok_cell FCe T, PySem.W.mg_of X G aCe, kCe, bCe⟩
  have E0 : EC K CA "NoMoment" C0 := ⟨⟨_, _, _, _, _, _, _, _, _, _, _, _, _, x0⟩, sa0, ga0, gg0, cc0, kc0⟩
  have m0 := PySem.W.mg_of X G aC0
  have J0 : Ini P w K mg base "NoMoment" C0 fI0 _ ["self", "top", "bottom"] (spE2 C0 "top" "bottom") := ⟨ok_i0 FI0 T E0 n0_0 n0_1 OKp, aI0, tI0, bI0⟩
  have E1 : EC K CA "NoMark" C1 := ⟨⟨_, _, _, _, _, _, _, _, _, _, _, _, _, x1⟩, sa1, ga1, gg1, cc1, kc1⟩
  have m1 := PySem.W.mg_of X G aC1
  have J1 : Ini P w K mg base "NoMark" C1 fI1 _ ["self", "tone", "begin", "end"] (spE3 C1 "tone" "begin" "end") := ⟨ok_i1 FI1 T E1 n1_0 n1_1 n1_2 OKp, aI1, tI1, bI1⟩
  have E2 : EC K CA "NoWindow" C2 := ⟨⟨_, _, _, _, _, _, _, _, _, _, _, _, _, x2⟩, sa2, ga2, gg2, cc2, kc2⟩
  have m2 := PySem.W.mg_of X G aC2
  have J2 : Ini P w K mg base "NoWindow" C2 fI2 _ ["self", "begin", "end", "rounds"] (spE3 C2 "begin" "end" "rounds") := ⟨ok_i2 FI2 T E2 n2_0 n2_1 n2_2 OKp, aI2, tI2, bI2⟩
  have E3 : EC K CA "NoPace" C3 := ⟨⟨_, _, _, _, _, _, _, _, _, _, _, _, _, x3⟩, sa3, ga3, gg3, cc3, kc3⟩
  have m3 := PySem.W.mg_of X G aC3
  have J3 : Ini P w K mg base "NoPace" C3 fI3 _ ["self", "hole", "speed"] (spE2 C3 "hole" "speed") := ⟨ok_i3 FI3 T E3 n3_0 n3_1 OKp, aI3, tI3, bI3⟩
  have E4 : EC K CA "Lost" C4 := ⟨⟨_, _, _, _, _, _, _, _, _, _, _, _, _, x4⟩, sa4, ga4, gg4, cc4, kc4⟩
  have m4 := PySem.W.mg_of X G aC4
  have J4 : Ini P w K mg base "Lost" C4 fI4 _ ["self", "start", "stop"] (spE2 C4 "start" "stop") := ⟨ok_i4 FI4 T E4 n4_0 n4_1 OKp, aI4, tI4, bI4⟩
  have E5 : EC K CA "LooksAhead" C5 := ⟨⟨_, _, _, _, _, _, _, _, _, _, _, _, _, x5⟩, sa5, ga5, gg5, cc5, kc5⟩
  have m5 := PySem.W.mg_of X G aC5
  have J5 : Ini P w K mg base "LooksAhead" C5 fI5 _ ["self", "name", "hole"] (spE2 C5 "name" "hole") := ⟨ok_i5 FI5 T E5 n5_0 n5_1 OKp, aI5, tI5, bI5⟩
  have E6 : EC K CA "NoTurns" C6 := ⟨⟨_, _, _, _, _, _, _, _, _, _, _, _, _, x6⟩, sa6, ga6, gg6, cc6, kc6⟩
  have m6 := PySem.W.mg_of X G aC6
  have E7 : EC K CA "NotPlain" C7 := ⟨⟨_, _, _, _, _, _, _, _, _, _, _, _, _, x7⟩, sa7, ga7, gg7, cc7, kc7⟩
  have m7 := PySem.W.mg_of X G aC7
  have E8 : EC K CA "NoText" C8 := ⟨⟨_, _, _, _, _, _, _, _, _, _, _, _, _, x8⟩, sa8, ga8, gg8, cc8, kc8⟩
  have m8 := PySem.W.mg_of X G aC8
  have J8 : Ini P w K mg base "NoText" C8 fI8 _ ["self", "text"] (spE1 C8 "text") := ⟨ok_i8 FI8 T E8 n8_0 OKp, aI8, tI8, bI8⟩
  have E9 : EC K CA "NoRounds" C9 := ⟨⟨_, _, _, _, _, _, _, _, _, _, _, _, _, x9⟩, sa9, ga9, gg9, cc9, kc9⟩
  have m9 := PySem.W.mg_of X G aC9
  have J9 : Ini P w K mg base "NoRounds" C9 fI9 _ ["self", "rounds"] (spE1 C9 "rounds") := ⟨ok_i9 FI9 T E9 n9_0 OKp, aI9, tI9, bI9⟩
  have E10 : EC K CA "NoName" C10 := ⟨⟨_, _, _, _, _, _, _, _, _, _, _, _, _, x10⟩, sa10, ga10, gg10, cc10, kc10⟩
  have m10 := PySem.W.mg_of X G aC10
  have J10 : Ini P w K mg base "NoName" C10 fI10 _ ["self", "name"] (spE1 C10 "name") := ⟨ok_i10 FI10 T E10 n10_0 OKp, aI10, tI10, bI10⟩
  have E11 : EC K CA "BadPace" C11 := ⟨⟨_, _, _, _, _, _, _, _, _, _, _, _, _, x11⟩, sa11, ga11, gg11, cc11, kc11⟩
  have m11 := PySem.W.mg_of X G aC11
  have J11 : Ini P w K mg base "BadPace" C11 fI11 _ ["self", "pace"] (spE1 C11 "pace") := ⟨ok_i11 FI11 T E11 n11_0 OKp, aI11, tI11, bI11⟩
  have E12 : EC K CA "NoStep" C12 := ⟨⟨_, _, _, _, _, _, _, _, _, _, _, _, _, x12⟩, sa12, ga12, gg12, cc12, kc12⟩
  have m12 := PySem.W.mg_of X G aC12
  have J12 : Ini P w K mg base "NoStep" C12 fI12 _ ["self", "step"] (spE1 C12 "step") := ⟨ok_i12 FI12 T E12 n12_0 OKp, aI12, tI12, bI12⟩
  have E13 : EC K CA "Unfilled" C13 := ⟨⟨_, _, _, _, _, _, _, _, _, _, _, _, _, x13⟩, sa13, ga13, gg13, cc13, kc13⟩
  have m13 := PySem.W.mg_of X G aC13
  have J13 : Ini P w K mg base "Unfilled" C13 fI13 _ ["self", "name"] (spE1 C13 "name") := ⟨ok_i13 FI13 T E13 n13_0 OKp, aI13, tI13, bI13⟩
  have E14 : EC K CA "NoChart" C14 := ⟨⟨_, _, _, _, _, _, _, _, _, _, _, _, _, x14⟩, sa14, ga14, gg14, cc14, kc14⟩
  have m14 := PySem.W.mg_of X G aC14
  have J14 : Ini P w K mg base "NoChart" C14 fI14 _ ["self", "line"] (spE1 C14 "line") := ⟨ok_i14 FI14 T E14 n14_0 OKp, aI14, tI14, bI14⟩
  have E15 : EC K CA "TooSoon" C15 := ⟨⟨_, _, _, _, _, _, _, _, _, _, _, _, _, x15⟩, sa15, ga15, gg15, cc15, kc15⟩
  have m15 := PySem.W.mg_of X G aC15
  have J15 : Ini P w K mg base "TooSoon" C15 fI15 _ ["self", "least"] (spE1 C15 "least") := ⟨ok_i15 FI15 T E15 n15_0 OKp, aI15, tI15, bI15⟩
  have E16 : EC K CA "NoStretch" C16 := ⟨⟨_, _, _, _, _, _, _, _, _, _, _, _, _, x16⟩, sa16, ga16, gg16, cc16, kc16⟩
  have m16 := PySem.W.mg_of X G aC16
  have J16 : Ini P w K mg base "NoStretch" C16 fI16 _ ["self", "until"] (spE1 C16 "until") := ⟨ok_i16 FI16 T E16 n16_0 OKp, aI16, tI16, bI16⟩
  have E17 : EC K CA "OutOfWindow" C17 := ⟨⟨_, _, _, _, _, _, _, _, _, _, _, _, _, x17⟩, sa17, ga17, gg17, cc17, kc17⟩
  have m17 := PySem.W.mg_of X G aC17
  have J17 : Ini P w K mg base "OutOfWindow" C17 fI17 _ ["self", "name"] (spE1 C17 "name") := ⟨ok_i17 FI17 T E17 n17_0 OKp, aI17, tI17, bI17⟩
  have E18 : EC K CA "NoMove" C18 := ⟨⟨_, _, _, _, _, _, _, _, _, _, _, _, _, x18⟩, sa18, ga18, gg18, cc18, kc18⟩
  have m18 := PySem.W.mg_of X G aC18
  have J18 : Ini P w K mg base "NoMove" C18 fI18 _ ["self", "begin"] (spE1 C18 "begin") := ⟨ok_i18 FI18 T E18 n18_0 OKp, aI18, tI18, bI18⟩
  have E19 : EC K CA "NoChannel" C19 := ⟨⟨_, _, _, _, _, _, _, _, _, _, _, _, _, x19⟩, sa19, ga19, gg19, cc19, kc19⟩
  have m19 := PySem.W.mg_of X G aC19
  have J19 : Ini P w K mg base "NoChannel" C19 fI19 _ ["self", "name"] (spE1 C19 "name") := ⟨ok_i19 FI19 T E19 n19_0 OKp, aI19, tI19, bI19⟩
  have E20 : EC K CA "NoSpan" C20 := ⟨⟨_, _, _, _, _, _, _, _, _, _, _, _, _, x20⟩, sa20, ga20, gg20, cc20, kc20⟩
  have m20 := PySem.W.mg_of X G aC20
  have J20 : Ini P w K mg base "NoSpan" C20 fI20 _ ["self", "span"] (spE1 C20 "span") := ⟨ok_i20 FI20 T E20 n20_0 OKp, aI20, tI20, bI20⟩
  have E21 : EC K CA "Ringed" C21 := ⟨⟨_, _, _, _, _, _, _, _, _, _, _, _, _, x21⟩, sa21, ga21, gg21, cc21, kc21⟩
  have m21 := PySem.W.mg_of X G aC21
  have J21 : Ini P w K mg base "Ringed" C21 fI21 _ ["self", "ring"] (spE1 C21 "ring") := ⟨ok_i21 FI21 T E21 n21_0 OKp, aI21, tI21, bI21⟩
  have OP : Ok P w K mg base CX0 4 "_law_pairs" _ (spPairs [C0, C1, C2, C3, C4, C5, C6, C7]) := ⟨_, _, ok_pairs FPr m0 E0 J0 n0_0 n0_1 m1 E1 J1 n1_0 n1_1 n1_2 m2 E2 J2 n2_0 n2_1 n2_2 m3 E3 J3 n3_0 n3_1 m4 E4 J4 n4_0 n4_1 m5 E5 J5 n5_0 n5_1 m6 E6 q6 m7 E7 q7, PySem.W.mg_of X G aPr, kPr, bPr⟩
  have OS : Ok P w K mg base CX0 4 "_law_singles" _ (spSingles [C8, C9, C10, C11, C12, C13, C14, C15, C16, C17, C18, C19, C20, C21]) := ⟨_, _, ok_singles FSi m8 E8 J8 n8_0 m9 E9 J9 n9_0 m10 E10 J10 n10_0 m11 E11 J11 n11_0 m12 E12 J12 n12_0 m13 E13 J13 n13_0 m14 E14 J14 n14_0 m15 E15 J15 n15_0 m16 E16 J16 n16_0 m17 E17 J17 n17_0 m18 E18 J18 n18_0 m19 E19 J19 n19_0 m20 E20 J20 n20_0 m21 E21 J21 n21_0, PySem.W.mg_of X G aSi, kSi, bSi⟩
  have OK : Ok P w K mg base CX0 1 "_law_kinds" _ (spKinds K ([C0, C1, C2, C3, C4, C5, C6, C7] ++ [C8, C9, C10, C11, C12, C13, C14, C15, C16, C17, C18, C19, C20, C21])) := ⟨_, _, ok_kinds FKi T m0 m1 m2 m3 m4 m5 m6 m7 m8 m9 m10 m11 m12 m13 m14 m15 m16 m17 m18 m19 m20 m21, PySem.W.mg_of X G aKi, kKi, bKi⟩
  have EE : ECs K CA [("NoMoment" : Str), ("NoMark" : Str), ("NoWindow" : Str), ("NoPace" : Str), ("Lost" : Str), ("LooksAhead" : Str), ("NoTurns" : Str), ("NotPlain" : Str), ("NoText" : Str), ("NoRounds" : Str), ("NoName" : Str), ("BadPace" : Str), ("NoStep" : Str), ("Unfilled" : Str), ("NoChart" : Str), ("TooSoon" : Str), ("NoStretch" : Str), ("OutOfWindow" : Str), ("NoMove" : Str), ("NoChannel" : Str), ("NoSpan" : Str), ("Ringed" : Str)] ([C0, C1, C2, C3, C4, C5, C6, C7] ++ [C8, C9, C10, C11, C12, C13, C14, C15, C16, C17, C18, C19, C20, C21]) := (.cons E0 (.cons E1 (.cons E2 (.cons E3 (.cons E4 (.cons E5 (.cons E6 (.cons E7 (.cons E8 (.cons E9 (.cons E10 (.cons E11 (.cons E12 (.cons E13 (.cons E14 (.cons E15 (.cons E16 (.cons E17 (.cons E18 (.cons E19 (.cons E20 (.cons E21 .nil))))))))))))))))))))))
  have icA : PySem.W.isClsIn K CA = true := by
    show (PySem.W.clsIn K CA).isSome = true
    rw [clsA]
    rfl
  exact ok_law FLaw T (PySem.W.mg_of X G aA) icA tyA EE (fun i j C D h1 h2 => EE.kit (by decide +kernel) clsA (show ¬ (Str.ofString "AnytuneError") ∈ [("NoMoment" : Str), ("NoMark" : Str), ("NoWindow" : Str), ("NoPace" : Str), ("Lost" : Str), ("LooksAhead" : Str), ("NoTurns" : Str), ("NotPlain" : Str), ("NoText" : Str), ("NoRounds" : Str), ("NoName" : Str), ("BadPace" : Str), ("NoStep" : Str), ("Unfilled" : Str), ("NoChart" : Str), ("TooSoon" : Str), ("NoStretch" : Str), ("OutOfWindow" : Str), ("NoMove" : Str), ("NoChannel" : Str), ("NoSpan" : Str), ("Ringed" : Str)] from by decide +kernel) h1 h2) rfl OC OP OS OK
theorem walk {l : PySem.W.OpenLaw} {q : Program} {loose : List Str} {XP : (Str → Option Value) → Heap → Prop} {YP : World → Heap → Prop} {d : DefRec} {K : Params → PySem.W.Frag} (hn : l.most = some 63) (hdf : d.params.defaults = [])
    (hY : ∀ (w : World) (h : Heap), YP w h → (K w.params).In h)
    (F : ∀ (w : World) (mg : Str → Option Value) (fa : Addr) (h : Heap), (K w.params).In h → h.Ns mainGlobals mg → mg d.name = some (.ref fa) →
      ∃ fd : FuncData, (∀ (s : Shared) (u : Value), BindsTo s fd ⟨[u], []⟩ [("_law_script", u)]) ∧ ∀ base : Heap, (K w.params).In base → base.Ns mainGlobals mg → FnOk l.prog w (K w.params) mg base CX0 6 fa fd ["_law_script"] (spLaw (K w.params))) :
    PySem.W.WalkO q loose XP YP l.row.toRowW d [] (fun f vs => PySem.call f vs) :=
  L2.walk_of (n := 63) (k := 6) (x := "_law_script") (CX := fun _ => CX0) (sp := fun w => spLaw (K w.params)) hn (by decide) hdf ⟨rfl, by decide, by decide⟩ hY F (fun _ _ a ns hl _ hS => ⟨a, ns, rfl, hS, hl, fun _ => rfl⟩) fun _ _ _ _ _ z => z
end Mo
open PySem PySem.W PyProof.Rows
set_option maxRecDepth 100000 in
set_option maxHeartbeats 0 in
theorem PySem.Challenge.cw_anytune_k01_errors_holds : PySem.Challenge.rw_anytune_k01_errors.Holds := by
  w_on; o_law; k_head; (case hw => w_witness2)
  k_fill
  refine Mo.walk (l := PySem.Challenge.rw_anytune_k01_errors) rfl rfl (fun w h Y => PySem.W.kIn_of Y) ?F
  case F =>
    intro w mg fa h KX G hmg
    refine' Mo.all_mk KX G hmg ?aA ?aC0 ?aC1 ?aC2 ?aC3 ?aC4 ?aC5 ?aC6 ?aC7 ?aC8 ?aC9 ?aC10 ?aC11 ?aC12 ?aC13 ?aC14 ?aC15 ?aC16 ?aC17 ?aC18 ?aC19 ?aC20 ?aC21 ?aKp ?lKp ?cKp ?kKp ?aCe ?lCe ?cCe ?kCe ?aPr ?lPr ?cPr ?kPr ?aSi ?lSi ?cSi ?kSi ?aKi ?lKi ?cKi ?kKi ?aLaw ?lLaw ?cLaw ?kLaw ?clsA ?tyA ?cg ?ct ?gLen ?gInt ?gIsi ?gRange ?gLst ?gDct ?gVe ?x0 ?nn0 ?sa0 ?ga0 ?gg0 ?cc0 ?kc0 ?aI0 ?lI0 ?cI0 ?kI0 ?tI0 ?n0_0 ?n0_1 ?x1 ?nn1 ?sa1 ?ga1 ?gg1 ?cc1 ?kc1 ?aI1 ?lI1 ?cI1 ?kI1 ?tI1 ?n1_0 ?n1_1 ?n1_2 ?x2 ?nn2 ?sa2 ?ga2 ?gg2 ?cc2 ?kc2 ?aI2 ?lI2 ?cI2 ?kI2 ?tI2 ?n2_0 ?n2_1 ?n2_2 ?x3 ?nn3 ?sa3 ?ga3 ?gg3 ?cc3 ?kc3 ?aI3 ?lI3 ?cI3 ?kI3 ?tI3 ?n3_0 ?n3_1 ?x4 ?nn4 ?sa4 ?ga4 ?gg4 ?cc4 ?kc4 ?aI4 ?lI4 ?cI4 ?kI4 ?tI4 ?n4_0 ?n4_1 ?x5 ?nn5 ?sa5 ?ga5 ?gg5 ?cc5 ?kc5 ?aI5 ?lI5 ?cI5 ?kI5 ?tI5 ?n5_0 ?n5_1 ?x6 ?nn6 ?sa6 ?ga6 ?gg6 ?cc6 ?kc6 ?q6 ?x7 ?nn7 ?sa7 ?ga7 ?gg7 ?cc7 ?kc7 ?q7 ?x8 ?nn8 ?sa8 ?ga8 ?gg8 ?cc8 ?kc8 ?aI8 ?lI8 ?cI8 ?kI8 ?tI8 ?n8_0 ?x9 ?nn9 ?sa9 ?ga9 ?gg9 ?cc9 ?kc9 ?aI9 ?lI9 ?cI9 ?kI9 ?tI9 ?n9_0 ?x10 ?nn10 ?sa10 ?ga10 ?gg10 ?cc10 ?kc10 ?aI10 ?lI10 ?cI10 ?kI10 ?tI10 ?n10_0 ?x11 ?nn11 ?sa11 ?ga11 ?gg11 ?cc11 ?kc11 ?aI11 ?lI11 ?cI11 ?kI11 ?tI11 ?n11_0 ?x12 ?nn12 ?sa12 ?ga12 ?gg12 ?cc12 ?kc12 ?aI12 ?lI12 ?cI12 ?kI12 ?tI12 ?n12_0 ?x13 ?nn13 ?sa13 ?ga13 ?gg13 ?cc13 ?kc13 ?aI13 ?lI13 ?cI13 ?kI13 ?tI13 ?n13_0 ?x14 ?nn14 ?sa14 ?ga14 ?gg14 ?cc14 ?kc14 ?aI14 ?lI14 ?cI14 ?kI14 ?tI14 ?n14_0 ?x15 ?nn15 ?sa15 ?ga15 ?gg15 ?cc15 ?kc15 ?aI15 ?lI15 ?cI15 ?kI15 ?tI15 ?n15_0 ?x16 ?nn16 ?sa16 ?ga16 ?gg16 ?cc16 ?kc16 ?aI16 ?lI16 ?cI16 ?kI16 ?tI16 ?n16_0 ?x17 ?nn17 ?sa17 ?ga17 ?gg17 ?cc17 ?kc17 ?aI17 ?lI17 ?cI17 ?kI17 ?tI17 ?n17_0 ?x18 ?nn18 ?sa18 ?ga18 ?gg18 ?cc18 ?kc18 ?aI18 ?lI18 ?cI18 ?kI18 ?tI18 ?n18_0 ?x19 ?nn19 ?sa19 ?ga19 ?gg19 ?cc19 ?kc19 ?aI19 ?lI19 ?cI19 ?kI19 ?tI19 ?n19_0 ?x20 ?nn20 ?sa20 ?ga20 ?gg20 ?cc20 ?kc20 ?aI20 ?lI20 ?cI20 ?kI20 ?tI20 ?n20_0 ?x21 ?nn21 ?sa21 ?ga21 ?gg21 ?cc21 ?kc21 ?aI21 ?lI21 ?cI21 ?kI21 ?tI21 ?n21_0 ?nnA
    (case aA => k_is)
    (case aC0 => k_is)
    (case aC1 => k_is)
    (case aC2 => k_is)
    (case aC3 => k_is)
    (case aC4 => k_is)
    (case aC5 => k_is)
    (case aC6 => k_is)
    (case aC7 => k_is)
    (case aC8 => k_is)
    (case aC9 => k_is)
    (case aC10 => k_is)
    (case aC11 => k_is)
    (case aC12 => k_is)
    (case aC13 => k_is)
    (case aC14 => k_is)
    (case aC15 => k_is)
    (case aC16 => k_is)
    (case aC17 => k_is)
    (case aC18 => k_is)
    (case aC19 => k_is)
    (case aC20 => k_is)
    (case aC21 => k_is)
    (case aKp => k_is)
    (case lKp => k_is)
    (case cKp => k_is)
    (case kKp => k_is)
    (case aCe => k_is)
    (case lCe => k_is)
    (case cCe => k_is)
    (case kCe => k_is)
    (case aPr => k_is)
    (case lPr => k_is)
    (case cPr => k_is)
    (case kPr => k_is)
    (case aSi => k_is)
    (case lSi => k_is)
    (case cSi => k_is)
    (case kSi => k_is)
    (case aKi => k_is)
    (case lKi => k_is)
    (case cKi => k_is)
    (case kKi => k_is)
    (case aLaw => k_is)
    (case lLaw => k_is)
    (case cLaw => k_is)
    (case kLaw => k_is)
    (case clsA => k_is)
    (case tyA => k_is)
    (case cg => k_is)
    (case ct => k_is)
    (case gLen => k_is)
    (case gInt => k_is)
    (case gIsi => k_is)
    (case gRange => k_is)
    (case gLst => k_is)
    (case gDct => k_is)
    (case gVe => k_is)
    (case x0 => k_is)
    (case nn0 => decide +kernel)
    (case sa0 => k_is)
    (case ga0 => k_is)
    (case gg0 => k_is)
    (case cc0 => k_is)
    (case kc0 => k_is)
    (case aI0 => k_is)
    (case lI0 => k_is)
    (case cI0 => k_is)
    (case kI0 => k_is)
    (case tI0 => k_is)
    (case n0_0 => k_is)
    (case n0_1 => k_is)
    (case x1 => k_is)
    (case nn1 => decide +kernel)
    (case sa1 => k_is)
    (case ga1 => k_is)
    (case gg1 => k_is)
    (case cc1 => k_is)
    (case kc1 => k_is)
    (case aI1 => k_is)
    (case lI1 => k_is)
    (case cI1 => k_is)
    (case kI1 => k_is)
    (case tI1 => k_is)
    (case n1_0 => k_is)
    (case n1_1 => k_is)
    (case n1_2 => k_is)
    (case x2 => k_is)
    (case nn2 => decide +kernel)
    (case sa2 => k_is)
    (case ga2 => k_is)
    (case gg2 => k_is)
    (case cc2 => k_is)
    (case kc2 => k_is)
    (case aI2 => k_is)
    (case lI2 => k_is)
    (case cI2 => k_is)
    (case kI2 => k_is)
    (case tI2 => k_is)
    (case n2_0 => k_is)
    (case n2_1 => k_is)
    (case n2_2 => k_is)
    (case x3 => k_is)
    (case nn3 => decide +kernel)
    (case sa3 => k_is)
    (case ga3 => k_is)
    (case gg3 => k_is)
    (case cc3 => k_is)
    (case kc3 => k_is)
    (case aI3 => k_is)
    (case lI3 => k_is)
    (case cI3 => k_is)
    (case kI3 => k_is)
    (case tI3 => k_is)
    (case n3_0 => k_is)
    (case n3_1 => k_is)
    (case x4 => k_is)
    (case nn4 => decide +kernel)
    (case sa4 => k_is)
    (case ga4 => k_is)
    (case gg4 => k_is)
    (case cc4 => k_is)
    (case kc4 => k_is)
    (case aI4 => k_is)
    (case lI4 => k_is)
    (case cI4 => k_is)
    (case kI4 => k_is)
    (case tI4 => k_is)
    (case n4_0 => k_is)
    (case n4_1 => k_is)
    (case x5 => k_is)
    (case nn5 => decide +kernel)
    (case sa5 => k_is)
    (case ga5 => k_is)
    (case gg5 => k_is)
    (case cc5 => k_is)
    (case kc5 => k_is)
    (case aI5 => k_is)
    (case lI5 => k_is)
    (case cI5 => k_is)
    (case kI5 => k_is)
    (case tI5 => k_is)
    (case n5_0 => k_is)
    (case n5_1 => k_is)
    (case x6 => k_is)
    (case nn6 => decide +kernel)
    (case sa6 => k_is)
    (case ga6 => k_is)
    (case gg6 => k_is)
    (case cc6 => k_is)
    (case kc6 => k_is)
    (case q6 => k_exc)
    (case x7 => k_is)
    (case nn7 => decide +kernel)
    (case sa7 => k_is)
    (case ga7 => k_is)
    (case gg7 => k_is)
    (case cc7 => k_is)
    (case kc7 => k_is)
    (case q7 => k_exc)
    (case x8 => k_is)
    (case nn8 => decide +kernel)
    (case sa8 => k_is)
    (case ga8 => k_is)
    (case gg8 => k_is)
    (case cc8 => k_is)
    (case kc8 => k_is)
    (case aI8 => k_is)
    (case lI8 => k_is)
    (case cI8 => k_is)
    (case kI8 => k_is)
    (case tI8 => k_is)
    (case n8_0 => k_is)
    (case x9 => k_is)
    (case nn9 => decide +kernel)
    (case sa9 => k_is)
    (case ga9 => k_is)
    (case gg9 => k_is)
    (case cc9 => k_is)
    (case kc9 => k_is)
    (case aI9 => k_is)
    (case lI9 => k_is)
    (case cI9 => k_is)
    (case kI9 => k_is)
    (case tI9 => k_is)
    (case n9_0 => k_is)
    (case x10 => k_is)
    (case nn10 => decide +kernel)
    (case sa10 => k_is)
    (case ga10 => k_is)
    (case gg10 => k_is)
    (case cc10 => k_is)
    (case kc10 => k_is)
    (case aI10 => k_is)
    (case lI10 => k_is)
    (case cI10 => k_is)
    (case kI10 => k_is)
    (case tI10 => k_is)
    (case n10_0 => k_is)
    (case x11 => k_is)
    (case nn11 => decide +kernel)
    (case sa11 => k_is)
    (case ga11 => k_is)
    (case gg11 => k_is)
    (case cc11 => k_is)
    (case kc11 => k_is)
    (case aI11 => k_is)
    (case lI11 => k_is)
    (case cI11 => k_is)
    (case kI11 => k_is)
    (case tI11 => k_is)
    (case n11_0 => k_is)
    (case x12 => k_is)
    (case nn12 => decide +kernel)
    (case sa12 => k_is)
    (case ga12 => k_is)
    (case gg12 => k_is)
    (case cc12 => k_is)
    (case kc12 => k_is)
    (case aI12 => k_is)
    (case lI12 => k_is)
    (case cI12 => k_is)
    (case kI12 => k_is)
    (case tI12 => k_is)
    (case n12_0 => k_is)
    (case x13 => k_is)
    (case nn13 => decide +kernel)
    (case sa13 => k_is)
    (case ga13 => k_is)
    (case gg13 => k_is)
    (case cc13 => k_is)
    (case kc13 => k_is)
    (case aI13 => k_is)
    (case lI13 => k_is)
    (case cI13 => k_is)
    (case kI13 => k_is)
    (case tI13 => k_is)
    (case n13_0 => k_is)
    (case x14 => k_is)
    (case nn14 => decide +kernel)
    (case sa14 => k_is)
    (case ga14 => k_is)
    (case gg14 => k_is)
    (case cc14 => k_is)
    (case kc14 => k_is)
    (case aI14 => k_is)
    (case lI14 => k_is)
    (case cI14 => k_is)
    (case kI14 => k_is)
    (case tI14 => k_is)
    (case n14_0 => k_is)
    (case x15 => k_is)
    (case nn15 => decide +kernel)
    (case sa15 => k_is)
    (case ga15 => k_is)
    (case gg15 => k_is)
    (case cc15 => k_is)
    (case kc15 => k_is)
    (case aI15 => k_is)
    (case lI15 => k_is)
    (case cI15 => k_is)
    (case kI15 => k_is)
    (case tI15 => k_is)
    (case n15_0 => k_is)
    (case x16 => k_is)
    (case nn16 => decide +kernel)
    (case sa16 => k_is)
    (case ga16 => k_is)
    (case gg16 => k_is)
    (case cc16 => k_is)
    (case kc16 => k_is)
    (case aI16 => k_is)
    (case lI16 => k_is)
    (case cI16 => k_is)
    (case kI16 => k_is)
    (case tI16 => k_is)
    (case n16_0 => k_is)
    (case x17 => k_is)
    (case nn17 => decide +kernel)
    (case sa17 => k_is)
    (case ga17 => k_is)
    (case gg17 => k_is)
    (case cc17 => k_is)
    (case kc17 => k_is)
    (case aI17 => k_is)
    (case lI17 => k_is)
    (case cI17 => k_is)
    (case kI17 => k_is)
    (case tI17 => k_is)
    (case n17_0 => k_is)
    (case x18 => k_is)
    (case nn18 => decide +kernel)
    (case sa18 => k_is)
    (case ga18 => k_is)
    (case gg18 => k_is)
    (case cc18 => k_is)
    (case kc18 => k_is)
    (case aI18 => k_is)
    (case lI18 => k_is)
    (case cI18 => k_is)
    (case kI18 => k_is)
    (case tI18 => k_is)
    (case n18_0 => k_is)
    (case x19 => k_is)
    (case nn19 => decide +kernel)
    (case sa19 => k_is)
    (case ga19 => k_is)
    (case gg19 => k_is)
    (case cc19 => k_is)
    (case kc19 => k_is)
    (case aI19 => k_is)
    (case lI19 => k_is)
    (case cI19 => k_is)
    (case kI19 => k_is)
    (case tI19 => k_is)
    (case n19_0 => k_is)
    (case x20 => k_is)
    (case nn20 => decide +kernel)
    (case sa20 => k_is)
    (case ga20 => k_is)
    (case gg20 => k_is)
    (case cc20 => k_is)
    (case kc20 => k_is)
    (case aI20 => k_is)
    (case lI20 => k_is)
    (case cI20 => k_is)
    (case kI20 => k_is)
    (case tI20 => k_is)
    (case n20_0 => k_is)
    (case x21 => k_is)
    (case nn21 => decide +kernel)
    (case sa21 => k_is)
    (case ga21 => k_is)
    (case gg21 => k_is)
    (case cc21 => k_is)
    (case kc21 => k_is)
    (case aI21 => k_is)
    (case lI21 => k_is)
    (case cI21 => k_is)
    (case kI21 => k_is)
    (case tI21 => k_is)
    (case n21_0 => k_is)
    (case nnA => decide +kernel)


