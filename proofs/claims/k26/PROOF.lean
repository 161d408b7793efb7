import PyProof.Rows.All
import Wide.All
import OpenK.AllK
import Wide.FinOn
import HandS.ForMost
import HandS.Style
import HandS.IsInst
import HandS.More
import HandS.Evl
import HandS.Zip
import HandS.Walk
import HandS.SetFor
import HandS.Defaults
import HandS.ForExc
import HandS.CallSlots
import PySem.Challenge.RW_coretower_k26_locks_and_sections
import KE.KExcSuper
import HandS.ExcInit
import HandS.Nested
import HandS.ExcField
import HandS.ExcIs
import HandS.TryMany
import HandS.TryOnly
import HandS.ExcOwn
import HandS.WordsExc
import KE.KExcIs
import HandS.FStr
import PyProof.Rows.RegStrFacts
import PyProof.StrLawsRepr
import KE.RegKSuper
set_option Elab.async false
set_option linter.all false
set_option maxRecDepth 100000
set_option maxHeartbeats 4000000
/-! ### small things over the layer: frames, loops, tests -/
namespace My
open PySem L2
section
variable {P : Program} {w : World} {K : PySem.W.Frag} {mg : Str → Option Value} {base : Heap}
/-- a def of the text, where it stands -/
structure Df (K : PySem.W.Frag) (mg : Str → Option Value) (x : Str) (st : Stmt) (ps : List Str) (f : Addr) (fd : FuncData) : Prop where
  F : Fun K x x st f fd
  g : mg x = some (.ref f)
  b : Binds K fd ps []
theorem cxK {CX : CXT} {N : List Str} {q : Str} {sc : Scope} {f : Addr} {cdv : Value} {A : Around} {outer : List Env} {s : Shared} {H : Hp} {E : XK} : (cxOf CX P w K mg base N q sc f cdv A outer s H E).K = K := rfl
theorem cxnK {CX : CXT} {N : List Str} {q : Str} {sc : Scope} {f : Addr} {cdv : Value} {A : Around} {outer : List Env} {s : Shared} {H : Hp} {E : XK} : (cxOf CX P w K mg base N q sc f cdv A outer s H E).nox.K = K := rfl
end
/-! ### frames -/
/-- what stood outside of S stands as it did -/
def Kp (S : List Addr) (H H' : Hp) : Prop := ∀ b o, b ∉ S → H b = some o → H' b = some o
theorem Kp.refl (S : List Addr) (H : Hp) : Kp S H H := fun _ _ _ h => h
theorem Kp.trans {S : List Addr} {H H1 H2 : Hp} (a : Kp S H H1) (b : Kp S H1 H2) : Kp S H H2 := fun c o hc h => b c o hc (a c o hc h)
theorem Kp.mono {S T : List Addr} {H H' : Hp} (a : Kp S H H') (h : ∀ x ∈ S, x ∈ T) : Kp T H H' := fun c o hc e => a c o (fun z => hc (h c z)) e
theorem Kp.of0 {T : List Addr} {H H' : Hp} (a : Kp [] H H') : Kp T H H' := a.mono fun x hx => nomatch hx
theorem Kp.new {S : List Addr} {H : Hp} {p : Addr} {o : HO} (h : H p = none) : Kp S H (upd H p o) := fun a u _ e => by
  rw [upd_ne (ne_of_none e h)]
  exact e
/-- a write to something that was not there at the beginning -/
theorem Kp.wr {S : List Addr} {H H' : Hp} {p : Addr} {o : HO} (a : Kp S H H') (h : H p = none) : Kp S H (upd H' p o) := fun b u hb e => by
  rw [upd_ne (ne_of_none e h)]
  exact a b u hb e
theorem Kp.put {S : List Addr} {H H' : Hp} {p : Addr} {o : HO} (a : Kp S H H') (h : p ∈ S) : Kp S H (upd H' p o) := fun b u hb e => by
  rw [upd_ne (fun z => hb (by rw [z]; exact h))]
  exact a b u hb e
theorem Kp.ls {S : List Addr} {K : PySem.W.Frag} {H H' : Hp} {a : Addr} {xs : List V} (k : Kp S H H') (ha : a ∉ S) (h : SqL K H a xs) : SqL K H' a xs := by
  rcases h with (h | ⟨o, h⟩) | h
  · exact .inl (.inl (k _ _ ha h))
  · exact .inl (.inr ⟨o, k _ _ ha h⟩)
  · exact .inr h
theorem Kp.tp {S : List Addr} {K : PySem.W.Frag} {H H' : Hp} {a : Addr} {xs : List V} (k : Kp S H H') (ha : a ∉ S) (h : SqT K H a xs) : SqT K H' a xs := by
  rcases h with (h | ⟨o, h⟩) | h
  · exact .inl (.inl (k _ _ ha h))
  · exact .inl (.inr ⟨o, k _ _ ha h⟩)
  · exact .inr h
theorem Kp.free {S : List Addr} {H H' : Hp} {p : Addr} (k : Kp S H H') (hp : H' p = none) (hs : ∀ a ∈ S, ∃ o, H' a = some o) : H p = none := by
  cases e : H p with
  | none => rfl
  | some o =>
    by_cases h : p ∈ S
    · obtain ⟨u, hu⟩ := hs p h
      rw [hp] at hu; cases hu
    · rw [k p o h e] at hp; cases hp
theorem Kp.free0 {H H' : Hp} {p : Addr} (k : Kp [] H H') (hp : H' p = none) : H p = none := k.free hp fun a h => nomatch h
theorem not1 {a b : Addr} (h : b ≠ a) : b ∉ [a] := fun z => h (List.mem_singleton.mp z)
theorem not0 {b : Addr} : b ∉ ([] : List Addr) := fun z => nomatch z
theorem sq_l {K : PySem.W.Frag} {H : Hp} {a : Addr} {xs : List V} (h : H a = some (.lst xs)) : SqL K H a xs := .inl (.inl h)
theorem sq_t {K : PySem.W.Frag} {H : Hp} {a : Addr} {xs : List V} (h : H a = some (.tup xs)) : SqT K H a xs := .inl (.inl h)
theorem small {n : Nat} (h : n ≤ 100000) : n ≤ sizeLine := Nat.le_trans h (by decide)
theorem smallL {n : Nat} (h : n ≤ 100000) : n < sizeLine := Nat.lt_of_le_of_lt h (by decide)
theorem ne_kind {H : Hp} {a b : Addr} {o u : HO} (h : H a = some o) (h' : H b = some u) (d : o ≠ u) : a ≠ b := ne_of h h' d
/-! ### subscripts -/
theorem atI_of {α : Type} {xs : List α} {i : Int} {v : α} (h0 : 0 ≤ i) (h : xs[i.toNat]? = some v) : atI xs i = some v := by
  have e := atI_nat h
  rwa [Int.toNat_of_nonneg h0] at e
theorem ixN_of {n : Nat} {i : Int} (h0 : 0 ≤ i) (h : i < n) : ixN n i = some i.toNat := by
  unfold ixN
  rw [if_pos h0, if_pos h]
theorem atI_ex {α : Type} {xs : List α} {i : Int} (h0 : 0 ≤ i) (h : i < xs.length) : ∃ v, v ∈ xs ∧ atI xs i = some v := by
  have hl : i.toNat < xs.length := by omega
  exact ⟨xs[i.toNat], List.getElem_mem hl, atI_of h0 (List.getElem?_eq_getElem hl)⟩
/-! ### isinstance -/
section
variable {K : PySem.W.Frag} {H : Hp} {Q : VK}
theorem isi_mk {x : V} {n m : String} {b : Bool} (h : TyOf K H x (.type n)) (k : kitB n m = some b) (q : Q (.bl b) H) : rIsi K [x, .ty m] H Q := ⟨x, _, _, _, b, rfl, .ty m, .base h, kit_ty k, q⟩
theorem isi_int_str {i : Int} (q : Q (.bl false) H) : rIsi K [.int i, .ty "str"] H Q := isi_mk (.int i) (by decide +kernel) q
theorem isi_str_str {i : Str} (q : Q (.bl true) H) : rIsi K [.str i, .ty "str"] H Q := isi_mk (.str i) (by decide +kernel) q
theorem isi_int_int {i : Int} (q : Q (.bl true) H) : rIsi K [.int i, .ty "int"] H Q := isi_mk (.int i) (by decide +kernel) q
theorem isi_int_bool {i : Int} (q : Q (.bl false) H) : rIsi K [.int i, .ty "bool"] H Q := isi_mk (.int i) (by decide +kernel) q
theorem isi_bl_bool {i : Bool} (q : Q (.bl true) H) : rIsi K [.bl i, .ty "bool"] H Q := isi_mk (.bl i) (by decide +kernel) q
end
theorem sc_ii {i j : Int} : scal (.int i) (.int j) = true := rfl
theorem sc_ss {i j : Str} : scal (.str i) (.str j) = true := rfl
theorem sc_bb {i j : Bool} : scal (.bl i) (.bl j) = true := rfl
theorem sc_ni {j : Int} : scal .non (.int j) = true := rfl
theorem sc_in {j : Int} : scal (.int j) .non = true := rfl
theorem sc_is {i : Int} {j : Str} : scal (.int i) (.str j) = true := rfl
theorem sc_si {i : Int} {j : Str} : scal (.str j) (.int i) = true := rfl
theorem sc_nn : scal .non .non = true := rfl
/-! ### loops -/
section
variable {K : PySem.W.Frag} {g : TG} {tb : TS} {D : Ends} {σ : St} {H : Hp}
theorem forL {a : Addr} {xs : List V} {i : Nat} (Pv : Nat → L2.St → Hp → Prop) (hσ : σ[i]? = some (some (.ref a))) (hS : SqL K H a xs) (h0 : Pv 0 σ H) (hl : ∀ j σ H, j ≤ xs.length → Pv j σ H → SqL K H a xs)
    (hs : ∀ j x σ H, xs[j]? = some x → Pv j σ H → g x σ H fun σ2 H2 => tb { D with nx := Pv (j + 1), ct := Pv (j + 1), bk := D.nx } σ2 H2) (hd : ∀ σ H, Pv xs.length σ H → D.nx σ H) : tFor (iList K (tVar i)) g tb D σ H :=
  ⟨_, hσ, a, rfl, ⟨xs, hS⟩, for_list Pv h0 hl hs hd⟩
theorem forT {a : Addr} {xs : List V} {i : Nat} (Pv : Nat → L2.St → Hp → Prop) (hσ : σ[i]? = some (some (.ref a))) (hS : SqT K H a xs) (h0 : Pv 0 σ H) (hl : ∀ j σ H, j ≤ xs.length → Pv j σ H → SqT K H a xs)
    (hs : ∀ j x σ H, xs[j]? = some x → Pv j σ H → g x σ H fun σ2 H2 => tb { D with nx := Pv (j + 1), ct := Pv (j + 1), bk := D.nx } σ2 H2) (hd : ∀ σ H, Pv xs.length σ H → D.nx σ H) : tFor (iTup K (tVar i)) g tb D σ H :=
  ⟨_, hσ, a, rfl, ⟨xs, hS⟩, for_tup Pv h0 hl hs hd⟩
/-- behind the reckoning of the bound: range(m) -/
theorem forR {ta : TA} {Qx : Hp → Int → Prop} (h : ta σ H fun vs H1 => ∃ m : Int, vs = [.int m] ∧ -(2 ^ 62) ≤ m ∧ m < 2 ^ 62 ∧ ∃ Pv : Nat → L2.St → Hp → Prop, Pv 0 σ H1 ∧
    (∀ j σ H, j < m.toNat → Pv j σ H → g (.int (0 + j)) σ H fun σ2 H2 => tb { D with nx := Pv (j + 1), ct := Pv (j + 1), bk := D.nx } σ2 H2) ∧ (∀ σ H, Pv m.toNat σ H → D.nx σ H))
    (mono : ∀ Q Q' : List V → Hp → Prop, (∀ vs H, Q vs H → Q' vs H) → ta σ H Q → ta σ H Q') : tFor (iRng1 ta) g tb D σ H := by
  refine mono _ _ ?_ h
  rintro vs H1 ⟨m, e, h1, h2, Pv, a, b, c⟩
  exact ⟨m, e, h1, h2, for_range Pv a b c⟩
end
/-! ### dicts -/
section
variable {κ : Type} [DecidableEq κ]
theorem keys_putK (kvs : List (κ × V)) (k : κ) (v : V) (h : (kvs.map (·.1)).Nodup) : ((putK kvs k v).map (·.1)).Nodup := by
  cases e : valV kvs k with
  | none => exact nd_putK v h e
  | some y =>
    have ha : (kvs.any fun kv => decide (kv.1 = k)) = true := by
      unfold valV at e
      cases q : kvs.find? fun kv => decide (kv.1 = k) with
      | none => rw [q] at e; cases e
      | some p => exact List.any_eq_true.mpr ⟨p, List.mem_of_find?_eq_some q, by simpa using List.find?_some q⟩
    unfold putK
    rw [if_pos ha, List.map_map]
    have e2 : ((fun kv : κ × V => kv.1) ∘ fun kv : κ × V => if kv.1 = k then (kv.1, v) else kv) = fun kv => kv.1 := by
      funext p
      show (if p.1 = k then (p.1, v) else p).1 = p.1
      split <;> rfl
    rw [e2]
    exact h
theorem mem_putK {kvs : List (κ × V)} {k : κ} {v : V} {p : κ × V} (h : p ∈ putK kvs k v) : p ∈ kvs ∨ p = (k, v) := by
  unfold putK at h
  split at h
  · obtain ⟨q, hq, e⟩ := List.mem_map.mp h
    split at e
    · rename_i hk
      exact .inr (by rw [← e, hk])
    · exact .inl (by rw [← e]; exact hq)
  · rcases List.mem_append.mp h with h | h
    · exact .inl h
    · exact .inr (List.mem_singleton.mp h)
theorem valV_mem {kvs : List (κ × V)} {k : κ} {v : V} (h : (kvs.map (·.1)).Nodup) (hm : (k, v) ∈ kvs) : valV kvs k = some v := by
  induction kvs with
  | nil => nomatch hm
  | cons p r ih =>
    rw [List.map_cons, List.nodup_cons] at h
    by_cases e : p.1 = k
    · rw [valV_pos e]
      rcases List.mem_cons.mp hm with z | z
      · rw [← z]
      · exact absurd (List.mem_map.mpr ⟨_, z, rfl⟩) (by rw [← e]; exact h.1)
    · rw [valV_neg e]
      rcases List.mem_cons.mp hm with z | z
      · exact absurd (by rw [← z]) e
      · exact ih h.2 z
end
end My

set_option Elab.async false
set_option linter.all false
set_option maxRecDepth 100000
set_option maxHeartbeats 4000000
namespace My
open PySem L2
/-! ### data that stands in tracked tuples and lists -/
mutual
inductive Dq (H : Hp) : V → PyData → Prop
  | non : Dq H .non .none
  | bl (b : Bool) : Dq H (.bl b) (.bool b)
  | int (i : Int) : Dq H (.int i) (.int i)
  | str (x : Str) : Dq H (.str x) (.str x)
  | lst {a : Addr} {xs : List V} {ds : List PyData} : H a = some (.lst xs) → DqAll H xs ds → Dq H (.ref a) (.list ds)
  | tup {a : Addr} {xs : List V} {ds : List PyData} : H a = some (.tup xs) → DqAll H xs ds → Dq H (.ref a) (.tuple ds)
inductive DqAll (H : Hp) : List V → List PyData → Prop
  | nil : DqAll H [] []
  | cons {v : V} {vs : List V} {d : PyData} {ds : List PyData} : Dq H v d → DqAll H vs ds → DqAll H (v :: vs) (d :: ds)
end
mutual
theorem Dq.kp {H H' : Hp} (k : Kp [] H H') : ∀ {d : PyData} {v : V}, Dq H v d → Dq H' v d
  | _, _, .non => .non
  | _, _, .bl b => .bl b
  | _, _, .int i => .int i
  | _, _, .str x => .str x
  | _, _, .lst e h => .lst (k _ _ not0 e) (DqAll.kp k h)
  | _, _, .tup e h => .tup (k _ _ not0 e) (DqAll.kp k h)
theorem DqAll.kp {H H' : Hp} (k : Kp [] H H') : ∀ {ds : List PyData} {vs : List V}, DqAll H vs ds → DqAll H' vs ds
  | _, _, .nil => .nil
  | _, _, .cons h t => .cons (Dq.kp k h) (DqAll.kp k t)
end
mutual
theorem Dq.dp {K : PySem.W.Frag} {H : Hp} : ∀ {d : PyData} {v : V}, Dq H v d → Dp K H v d
  | _, _, .non => .non
  | _, _, .bl b => .bl b
  | _, _, .int i => .int i
  | _, _, .str x => .str x
  | _, _, .lst e h => .lst (sq_l e) (DqAll.dp h)
  | _, _, .tup e h => .tup (sq_t e) (DqAll.dp h)
theorem DqAll.dp {K : PySem.W.Frag} {H : Hp} : ∀ {ds : List PyData} {vs : List V}, DqAll H vs ds → DpAll K H vs ds
  | _, _, .nil => .nil
  | _, _, .cons h t => .cons (Dq.dp h) (DqAll.dp t)
end
theorem DqAll.len {H : Hp} : ∀ {ds : List PyData} {vs : List V}, DqAll H vs ds → vs.length = ds.length
  | _, _, .nil => rfl
  | _, _, .cons h t => by rw [List.length_cons, List.length_cons, t.len]
theorem DqAll.get {H : Hp} : ∀ {ds : List PyData} {vs : List V}, DqAll H vs ds → ∀ {i : Nat} {v : V}, vs[i]? = some v → ∃ d, ds[i]? = some d ∧ Dq H v d
  | _, _, .nil, _, _, e => nomatch e
  | _, _, .cons h t, 0, _, e => by cases e; exact ⟨_, rfl, h⟩
  | _, _, .cons h t, i + 1, _, e => t.get (i := i) e
/-- its class -/
def tyD : PyData → String
  | .none => "NoneType"
  | .bool _ => "bool"
  | .int _ => "int"
  | .str _ => "str"
  | .list _ => "list"
  | .tuple _ => "tuple"
  | _ => "object"
theorem Dq.ty {K : PySem.W.Frag} {H : Hp} {v : V} {d : PyData} (h : Dq H v d) : TyOf K H v (.type (tyD d)) := by
  cases h with
  | non => exact .non
  | bl b => exact .bl b
  | int i => exact .int i
  | str x => exact .str x
  | lst e h => exact .lst e
  | tup e h => exact .tup e
def six (d : PyData) : Prop := match d with
  | .none | .bool _ | .int _ | .str _ | .list _ | .tuple _ => True
  | _ => False
theorem Dq.six {H : Hp} {v : V} {d : PyData} (h : Dq H v d) : six d := by
  cases h <;> exact True.intro
def isStrD : PyData → Bool | .str _ => true | _ => false
def isTupD : PyData → Bool | .tuple _ => true | _ => false
def isLstD : PyData → Bool | .list _ => true | _ => false
def isIntD : PyData → Bool | .int _ | .bool _ => true | _ => false
def isBoolD : PyData → Bool | .bool _ => true | _ => false
section
variable {K : PySem.W.Frag} {H : Hp} {Q : VK} {v : V} {d : PyData}
theorem isi_D (h : Dq H v d) {m : String} {b : Bool} (k : kitB (tyD d) m = some b) (q : Q (.bl b) H) : rIsi K [v, .ty m] H Q := isi_mk h.ty k q
theorem isi_Dstr (h : Dq H v d) (q : Q (.bl (isStrD d)) H) : rIsi K [v, .ty "str"] H Q := isi_D h (by cases h <;> simp only [tyD, isStrD, isTupD, isLstD, isIntD, isBoolD] <;> decide +kernel) q
theorem isi_Dtup (h : Dq H v d) (q : Q (.bl (isTupD d)) H) : rIsi K [v, .ty "tuple"] H Q := isi_D h (by cases h <;> simp only [tyD, isStrD, isTupD, isLstD, isIntD, isBoolD] <;> decide +kernel) q
theorem isi_Dlst (h : Dq H v d) (q : Q (.bl (isLstD d)) H) : rIsi K [v, .ty "list"] H Q := isi_D h (by cases h <;> simp only [tyD, isStrD, isTupD, isLstD, isIntD, isBoolD] <;> decide +kernel) q
theorem isi_Dint (h : Dq H v d) (q : Q (.bl (isIntD d)) H) : rIsi K [v, .ty "int"] H Q := isi_D h (by cases h <;> simp only [tyD, isStrD, isTupD, isLstD, isIntD, isBoolD] <;> decide +kernel) q
theorem isi_Dbool (h : Dq H v d) (q : Q (.bl (isBoolD d)) H) : rIsi K [v, .ty "bool"] H Q := isi_D h (by cases h <;> simp only [tyD, isStrD, isTupD, isLstD, isIntD, isBoolD] <;> decide +kernel) q
end
/-! ### xs.remove(text) -/
def eqs (z : Str) (v : Value) : Bool := match v with
  | .str y _ => y == z
  | _ => false
theorem str_beq' (w z : Str) : (w == z) = (w.cps.toList == z.cps.toList) := by
  rw [Bool.eq_iff_iff, beq_iff_eq, beq_iff_eq]
  constructor
  · rintro rfl; rfl
  · intro h
    obtain ⟨a⟩ := w
    obtain ⟨b⟩ := z
    obtain ⟨a⟩ := a
    obtain ⟨b⟩ := b
    have h' : a = b := h
    rw [h']
def rRemS : V → List V → Hp → VK → Prop := fun x xs H Q => ∃ (l : Addr) (zs : List Str) (z : Str) (j : Nat), x = .ref l ∧ xs = [.str z] ∧ H l = some (.lst (zs.map V.str)) ∧ zs[j]? = some z ∧ (∀ m : Nat, m < j → zs[m]? ≠ some z) ∧ Q .non (upd H l (.lst ((zs.eraseIdx j).map V.str)))
theorem vals_str : ∀ {zs : List Str} {us : List Value}, Vals (zs.map V.str) us → ∀ {i : Nat} {u : Value}, us[i]? = some u → ∃ y t, u = .str y t ∧ zs[i]? = some y
  | [], _, r, _, _, e => by cases r; cases e
  | z :: zs, us, r, i, u, e => by
    rw [List.map_cons] at r
    cases r with
    | cons r0 rt =>
      match i, e with
      | 0, e =>
        cases e
        obtain ⟨t, rfl⟩ := r0
        exact ⟨z, t, rfl, rfl⟩
      | i + 1, e => exact vals_str rt (i := i) e
theorem erase_mapS : ∀ (l : List Str) (j : Nat), (l.map V.str).eraseIdx j = (l.eraseIdx j).map V.str
  | [], j => by simp
  | _ :: _, 0 => by simp
  | _ :: r, j + 1 => by simp [erase_mapS r j]
theorem eqs_ok (w z : Str) (tw t : Tok) : MeetsSeq.EqGives (.str w tw) (.str z t) (eqs z (.str w tw)) := by
  have e : eqs z (.str w tw) = (w.cps.toList == z.cps.toList) := (str_beq' w z)
  rw [e]
  exact SeqRoads2.EqGives.str w z tw t
theorem mt_removeS {X : Cx} : MtM X "list.remove" rRemS := by
  intro pins s σ H x xs v us Q I rx rxs h
  obtain ⟨l, zs, z, j, rfl, rfl, hH, hj, hno, q⟩ := h
  cases rx
  obtain ⟨u, rfl, ru⟩ := rxs.one
  obtain ⟨t, rfl⟩ := ru
  obtain ⟨hz, its, n, r, hl, e⟩ := I.lstM hH
  rw [List.length_map] at hl hz
  have hjn : j < zs.length := (List.getElem?_eq_some_iff.mp hj).1
  have hjl : j < its.toArray.size := by rw [List.size_toArray]; omega
  have each : ∀ y, y ∈ its.toArray → MeetsSeq.EqGives y (.str z t) (eqs z y) := fun y hy => by
    obtain ⟨i, hi, e1⟩ := List.mem_iff_getElem.mp (show y ∈ its by simpa using hy)
    obtain ⟨w, tw, rfl, _⟩ := vals_str r (i := i) (by rw [List.getElem?_eq_getElem hi, e1])
    exact eqs_ok w z tw t
  have at_ : ∀ m (hm : m < its.toArray.size), ∃ t', its.toArray[m] = .str (zs[m]'(by rw [List.size_toArray] at hm; omega)) t' := fun m hm => by
    have hm' : m < its.length := by simpa using hm
    obtain ⟨w, tw, ew, ez⟩ := vals_str r (i := m) (List.getElem?_eq_getElem hm')
    have hmz : m < zs.length := by omega
    rw [List.getElem?_eq_getElem hmz] at ez
    exact ⟨tw, by rw [Option.some.inj ez]; simpa using ew⟩
  refine call_meets PySem.F.slot_list_remove ⟨_, e, rfl⟩ PySem.F.entry_list_remove (PySem.F.args_list_remove_2 _ _) (MeetsSeq.list_remove l its.toArray n (.str z t) (eqs z) each j hjl ?_ ?_ (by rw [List.size_toArray]; omega)) ⟨e, ?_⟩
  · obtain ⟨t', et⟩ := at_ j hjl
    rw [List.getElem?_eq_getElem hjn] at hj
    rw [et, Option.some.inj hj]
    exact beq_self_eq_true z
  · intro m hm hmj
    obtain ⟨t', et⟩ := at_ m hm
    rw [et]
    refine beq_eq_false_iff_ne.mpr fun e2 => hno m hmj ?_
    rw [← e2]
    exact List.getElem?_eq_getElem _
  · have rr := r.eraseIdx j
    rw [erase_mapS] at rr
    refine ⟨.non, _, I.lset (its' := its.eraseIdx j) (t' := s.toks) hH e ?_ rr ?_, rfl, q⟩
    · show its.toArray.eraseIdxIfInBounds j = (its.eraseIdx j).toArray
      rw [List.eraseIdxIfInBounds_toArray]
    · have := List.length_eraseIdx_le zs j
      rw [List.length_map]
      omega
/-! ### repr of data, nothing being shown -/
def rReprD (K : PySem.W.Frag) : List V → Hp → VK → Prop := fun xs H Q => ∃ (a : Addr) (d : PyData), xs = [.ref a] ∧ Dp K H (.ref a) d ∧ d.showable = true ∧ d.hasDict = false ∧ d.depth ≤ 60 ∧ d.shown.length ≤ sizeLine ∧ Q (.str d.shown) H
theorem call_reprD {X : Cx} (gd : X.A.guards = some [] ∧ X.A.units + 64 < cLine) : CallR X (.builtin "repr") (rReprD X.K) := by
  intro pins s σ H xs us Q I r h
  obtain ⟨a, d, rfl, hd, hs, hn, hp, hz, q⟩ := h
  obtain ⟨u, rfl, ru⟩ := vals1 r
  obtain ⟨as, rd⟩ := Dp.reads I d (.ref a) u hd ru
  cases (show u = Value.ref a from ru)
  refine repr_of_reads' rd hs (PyData.noDict_hsm hn) gd.1 (by omega) (fun _ _ e => e) (fun h' t tk hk => ⟨.str _, H, I.kept (t' := tk) hk, ⟨_, rfl⟩, q⟩) hz
/-! ### an own class made where what is raised is wished for at the slots -/
def tMakeS (C : Addr) (sp : Sp) (dvs : List V) (E : L2.St → XK) (t : TA) : TE := fun σ H Q => t σ H fun vs H1 => ∀ o d, H1 o = none → H1 d = none → d ≠ o → sp (.ref o :: (vs ++ dvs)) (upd (upd H1 d (.own o)) o (.ins C d [])) (fun v H2 => v = .non ∧ Q (.ref o) H2) (E σ)
section
variable {X : Cx} {CX : CXT} {k : Nat} {f C : Addr} {fd : FuncData} {ps : List Str} {sp : Sp} {dvs : List V} {ds : List Value} {E : L2.St → XK} {x : Str} {p pos : Pos} {e : Expr} {es : List Expr} {t : TA}
theorem pe_makeS (M : Mk X.K C f) (F : FnOk X.prog X.w X.K X.mg X.base CX k f fd ps sp) (hr : Room (k + 1) X.A) (hg : Gl X x) (hm : X.mg x = some (.ref C)) (hb : Binds X.K fd ps ds) (hd : Vals dvs ds) (hx : ∀ σ, PassesAt CX X σ (E σ)) (ha : PA X (e :: es) t)
    (hdb : (x == ("__debug__" : Str)) = false := by decide) (he : starEach (e :: es) X.env = (false, eval e X.env) :: starEach es X.env := by rfl) (hpl : (backTo pos (starEach es X.env)).any (·.1) = false := by rfl) :
    PE X (.Call (.Name x p) (e :: es) [] pos) (tMakeS C sp dvs E t) := by
  refine ⟨fun pins s σ H Q I h => wpAny_Call_Name_kw (ld_glob I hg hm ?_ hdb)⟩
  refine PySem.W.callWith_K (h₀ := X.base) I.ok.mod.kin M.kp (thn (ha.run pos pins s σ H _ I h) fun us s1 ⟨vs, H1, I1, r, q⟩ => ⟨I1.kIn, ?_⟩) he hpl
  have g0 : H1 (s1.heap.objs.size + 1) = none := I1.hok.fresh (Nat.le_succ _)
  have g1 : H1 s1.heap.objs.size = none := I1.hok.fresh (Nat.le_refl _)
  have todo := q _ _ g0 g1 (Nat.ne_of_lt (Nat.lt_succ_self _))
  have J := Inv.made (C := C) I1
  have rr : Vals (V.ref (s1.heap.objs.size + 1) :: (vs ++ dvs)) (Value.ref (s1.heap.objs.size + 1) :: (us ++ ds)) := .cons rfl (r.append hd)
  have many : (Value.ref (s1.heap.objs.size + 1) :: us ++ ds).length = ps.length := (rr.length.symm.trans (F.len _ _ _ _ todo))
  refine wpAny_call (make_map (f := f) I1.kIn M.makes M.init (beq_iff_eq.mp M.fn) (codeAny_mono (F.run _ X.stack _ _ ⟨_, []⟩ _ _ _ (E σ) (hr.make C us []) (J.env0.make C us []) (hb _ (Value.ref (s1.heap.objs.size + 1) :: us) J.kIn many) rr todo) fun
    | .error er, s2, z => hx σ pins _ _ er s2 J z
    | .ok (.ret u), s2, z => ?_
    | .ok .next, _, z => False.elim z
    | .ok .brk, _, z => False.elim z
    | .ok .cont, _, z => False.elim z))
  obtain ⟨v, H3, J3, rv, rfl, z3⟩ := J.after z
  exact ⟨rv, .ref (s1.heap.objs.size + 1), H3, J3, rfl, z3⟩
end
end My

set_option Elab.async false
set_option linter.all false
set_option maxRecDepth 100000
set_option maxHeartbeats 4000000
namespace My
open PySem L2
def top (i : Nat) : Stmt := PySem.Challenge.pw_coretower_k26_locks_and_sections.main.body.getD i (.Pass ⟨0, 0, 0, 0⟩)
abbrev s_is_name : Stmt := top 7
theorem sc_is_name : FnScope ["value", "letter"] ["value"] (defScope s_is_name) := ⟨rfl, rfl, rfl, by decide +kernel, rfl, by decide +kernel, by decide +kernel⟩
abbrev s_is_below : Stmt := top 8
theorem sc_is_below : FnScope ["value", "bound"] ["value", "bound"] (defScope s_is_below) := ⟨rfl, rfl, rfl, by decide +kernel, rfl, by decide +kernel, by decide +kernel⟩
abbrev s_is_number : Stmt := top 9
theorem sc_is_number : FnScope ["value"] ["value"] (defScope s_is_number) := ⟨rfl, rfl, rfl, by decide +kernel, rfl, by decide +kernel, by decide +kernel⟩
abbrev s_is_step : Stmt := top 13
theorem sc_is_step : FnScope ["step", "roles", "part", "role"] ["step"] (defScope s_is_step) := ⟨rfl, rfl, rfl, by decide +kernel, rfl, by decide +kernel, by decide +kernel⟩
abbrev s_is_part : Stmt := top 14
theorem sc_is_part : FnScope ["part", "role"] ["part", "role"] (defScope s_is_part) := ⟨rfl, rfl, rfl, by decide +kernel, rfl, by decide +kernel, by decide +kernel⟩
abbrev s_is_place : Stmt := top 15
theorem sc_is_place : FnScope ["part", "name"] ["part"] (defScope s_is_place) := ⟨rfl, rfl, rfl, by decide +kernel, rfl, by decide +kernel, by decide +kernel⟩
abbrev s_is_worth : Stmt := top 16
theorem sc_is_worth : FnScope ["part", "item"] ["part"] (defScope s_is_worth) := ⟨rfl, rfl, rfl, by decide +kernel, rfl, by decide +kernel, by decide +kernel⟩
abbrev s_is_guard : Stmt := top 17
theorem sc_is_guard : FnScope ["part", "local", "sign", "worth"] ["part"] (defScope s_is_guard) := ⟨rfl, rfl, rfl, by decide +kernel, rfl, by decide +kernel, by decide +kernel⟩
def lets : Str := "abcdefghijklmnopqrstuvwxyz"
/-! ### what a name, a place, a worth, a guard, a step is -/
def lowC (c : Nat) : Bool := decide (97 ≤ c) && decide (c ≤ 122)
def nameS (z : Str) : Bool := decide (1 ≤ z.length) && (decide (z.length ≤ 8) && z.cps.toList.all lowC)
def nameD : PyData → Bool
  | .str z => nameS z
  | _ => false
def belowD (m : Int) : PyData → Bool
  | .int i => decide (0 ≤ i) && decide (i < m)
  | _ => false
def placeD : PyData → Bool
  | .tuple ds => ds.length == 2 && ds.all nameD
  | d => nameD d
def worthD : PyData → Bool
  | .tuple ds => decide (1 ≤ ds.length) && (decide (ds.length ≤ 3) && ds.all fun d => nameD d || belowD 10 d)
  | _ => false
def signS (z : Str) : Bool := inV (.str z) [.str "=", .str "!", .str "<"]
def guardD : PyData → Bool
  | .tuple [l, .str z, w] => nameD l && (signS z && worthD w)
  | _ => false
/-- the sign of a guard is a text -/
def sgOk : PyData → Prop
  | .tuple [_, .str _, _] => True
  | .tuple [_, _, _] => False
  | _ => True
def partD (r : Str) (d : PyData) : Bool :=
  if r = "place" then placeD d else if r = "worth" then worthD d else if r = "guard" then (match d with | .none => true | d => guardD d) else nameD d
mutual
def szD : PyData → Bool
  | .str z => decide (z.length ≤ 1000)
  | .tuple ds => szAll ds
  | .list ds => szAll ds
  | _ => true
def szAll : List PyData → Bool
  | [] => true
  | d :: ds => szD d && szAll ds
end
mutual
def noL : PyData → Bool
  | .list _ => false
  | .tuple ds => noLAll ds
  | _ => true
def noLAll : List PyData → Bool
  | [] => true
  | d :: ds => noL d && noLAll ds
end
mutual
theorem Dq.kpS {H H' : Hp} {S : List Addr} (k : Kp S H H') (hS : ∀ a ∈ S, ∃ xs, H a = some (.lst xs)) : ∀ {d : PyData} {v : V}, Dq H v d → noL d = true → Dq H' v d
  | _, _, .non, _ => .non
  | _, _, .bl b, _ => .bl b
  | _, _, .int i, _ => .int i
  | _, _, .str x, _ => .str x
  | _, _, .lst e h, z => by cases z
  | _, _, .tup e h, z => .tup (k _ _ (fun m => by
      obtain ⟨xs, q⟩ := hS _ m
      rw [e] at q; cases q) e) (DqAll.kpS k hS h z)
theorem DqAll.kpS {H H' : Hp} {S : List Addr} (k : Kp S H H') (hS : ∀ a ∈ S, ∃ xs, H a = some (.lst xs)) : ∀ {ds : List PyData} {vs : List V}, DqAll H vs ds → noLAll ds = true → DqAll H' vs ds
  | _, _, .nil, _ => .nil
  | _, _, .cons h t, z => by
    have z' := Bool.and_eq_true_iff.mp z
    exact .cons (Dq.kpS k hS h z'.1) (DqAll.kpS k hS t z'.2)
end
theorem szAll_mem : ∀ {ds : List PyData}, szAll ds = true → ∀ d ∈ ds, szD d = true
  | d :: ds, h, e, he => by
    have h' : (szD d && szAll ds) = true := h
    rw [Bool.and_eq_true] at h'
    rcases List.mem_cons.mp he with rfl | he
    · exact h'.1
    · exact szAll_mem h'.2 e he
def forms : List (Str × List Str) := [("read", ["local", "place", "guard"]), ("acquire", ["local", "place", "guard"]), ("write", ["place", "worth", "guard"]), ("release", ["place", "worth", "guard"]), ("swap", ["local", "place", "worth", "guard"]),
  ("cas", ["local", "place", "worth", "worth", "guard"]), ("fence", ["name", "guard"]), ("lock", ["name"]), ("free", ["name"]), ("take", ["local", "guard"]), ("drop", ["local", "guard"]), ("give", ["worth", "guard"])]
def stepD (rs : List Str) (ds : List PyData) : Bool := ds.length == rs.length && ((ds.zip rs).all fun p => partD p.2 p.1)
/-- a written tuple of texts -/
def WrT (K : PySem.W.Frag) (R : Addr) (rs : List Str) : Prop := ∃ (o : Obj) (its : Array Value) (n : Nat), K.lookup R = some o ∧ o.cls = .type "tuple" ∧ o.data = .seq its n ∧ its.size ≤ sizeLine ∧ Vals (rs.map V.str) its.toList
structure Bt (K : PySem.W.Frag) (w : World) (mg : Str → Option Value) (T_FORMS T_SIGNS : Addr) (es : Array DictEntry) (n : Nat) (tL : Tok) : Prop where
  b_isinstance : mg "isinstance" = none
  b_str : mg "str" = none
  b_int : mg "int" = none
  b_bool : mg "bool" = none
  b_tuple : mg "tuple" = none
  b_len : mg "len" = none
  b_all : mg "all" = none
  b_zip : mg "zip" = none
  c_LETTERS : mg "LETTERS" = some (.str lets tL)
  c_FORMS : mg "FORMS" = some (.ref T_FORMS)
  c_SIGNS : mg "SIGNS" = some (.ref T_SIGNS)
  DF : KDict K w T_FORMS es n
  fm : ∀ p ∈ forms, ∃ R, PySem.W.nsIn K T_FORMS p.1 = some (some (.ref R)) ∧ WrT K R p.2
  sg : WrT K T_SIGNS ["=", "!", "<"]
/-- the promise of a test of data -/
def spD (pre : PyData → Prop) (f : PyData → Bool) : Sp := fun vs H Q _ => ∃ (v : V) (d : PyData), vs = [v] ∧ Dq H v d ∧ szD d = true ∧ pre d ∧ ∀ H', Kp [] H H' → Q (.bl (f d)) H'
def LowIn (z : Str) (D : Addr) (H : Hp) (i : Nat) (H' : Hp) : Prop := H' D = some (.lst ((z.cps.toList.take i).map fun c => V.bl (lowC c))) ∧ Kp [] H H'
theorem lets_mem (c : Nat) : decide (c ∈ lets.cps.toList) = lowC c := by
  have e : lets.cps.toList = (List.range 26).map (97 + ·) := by decide +kernel
  rw [e, Bool.eq_iff_iff, decide_eq_true_eq]
  unfold lowC
  rw [Bool.and_eq_true, decide_eq_true_eq, decide_eq_true_eq, List.mem_map]
  constructor
  · rintro ⟨i, hi, rfl⟩
    have := List.mem_range.mp hi
    omega
  · rintro ⟨h1, h2⟩
    exact ⟨c - 97, List.mem_range.mpr (by omega), by omega⟩
theorem all_take {α : Type} {f : α → Bool} {l : List α} : ((l.map fun c => f c).all id) = l.all f := by
  rw [List.all_map]; rfl
theorem take_snoc {α : Type} {l : List α} {i : Nat} {x : α} (h : l[i]? = some x) : l.take (i + 1) = l.take i ++ [x] := by
  rw [List.take_add_one, h]; rfl
section
variable {P : Program} {w : World} {K : PySem.W.Frag} {mg : Str → Option Value} {base : Heap} {T_FORMS T_SIGNS : Addr} {es : Array DictEntry} {n : Nat} {tL : Tok}
theorem ok_is_name {f : Addr} {fd : FuncData} (D : Df K mg "is_name" s_is_name ["value"] f fd) (T : Bt K w mg T_FORMS T_SIGNS es n tL) : FnOk P w K mg base CX0 1 f fd ["value"] (spD (fun _ => True) nameD) := by
  refine D.F.ok sc_is_name (fun vs H Q E h => ?_) (fun cdv A outer s H vs Q E hr h => ?_)
  · obtain ⟨a, m, rfl, _⟩ := h
    rfl
  · obtain ⟨v, d, rfl, hd, sz, _, q⟩ := h
    have hu := hu_of hr
    refine ⟨_, (pss_cons (ps_if (pt_not (pt_val (pe_callB (id := "isinstance") (r := rIsi K) call_isi (by rfl) T.b_isinstance (by decide +kernel) (pa_cons (pv 0) (pa_cons (pe_bltn (v := .ty "str") (by rfl) T.b_str (by decide +kernel) rfl) pa_nil))))) (pss_one (ps_ret pe_bl)) pss_nil)
      (pss_one (ps_ret (pe_and (pe_chain op_le op_le pe_int (pe_callB (id := "len") call_len_str (by rfl) T.b_len PySem.boot_len (pa_cons (pv 0) pa_nil)) pe_int) (pe_one (pe_callB (id := "all") (r := rAll K) (cr_all rfl) (by rfl) T.b_all (by decide +kernel) (pa_cons (pe_lc (own := [("letter", 1)]) (g := (gName 1)) (tt := tYes) rfl sc_is_name.nd (pi_str (pv 0)) (blkOk_by (N := ["value", "letter"]) (sc := defScope s_is_name) (by decide +kernel)) (fun _ _ _ _ _ => (pg_name (i := 1) sc_is_name.nd rfl (Or.inl rfl))) (fun _ _ _ _ _ => pts_nil) (fun _ _ _ _ _ => (pe_cmpR op_in_sign (pv 1) (pe_glob (v := .str lets) rfl T.c_LETTERS ⟨_, rfl⟩) (by rfl)))) pa_nil))))))), ?_⟩
    simp only [tSeq, tIfS, tTest, tOp, tUn, tCB, tCons, tNil, tVar, tC, rI0, rI, rU, rEq, rNe, tRet, tRetN, tAsg, gName, gSub, tBM, tBM0, tNext, tB, tNot, tAnd, tOr, tIf, tCall, tDrop, tBreak, tCont, L2.start, tDGet, sDPut, tTup, tLst, tDNewK, tRevL, rCat, rAppend, rPop, rSetL, tAndV, tOrV, tNotV, tSl, tPart, tNoPart, tM1, gTup, gCons, gNil, cxK, cxnK, List.map_cons, List.map_nil, List.length_cons, List.length_nil, List.replicate, List.cons_append, List.nil_append, List.append_nil, List.set_cons_zero, List.set_cons_succ, List.getElem?_cons_zero, List.getElem?_cons_succ, Option.some.injEq, V.ref.injEq, V.int.injEq, V.str.injEq, V.bl.injEq, V.ty.injEq, exists_eq_left', exists_eq_left, exists_and_left, List.cons.injEq, and_true, true_and, sc_ii, sc_ss, sc_bb, sc_ni, sc_in, sc_is, sc_si, sc_nn, decide_true, decide_false, reduceCtorEq, Bool.false_eq_true, if_true, if_false, ite_true, ite_false, exists_const, eq_self, false_and, and_false, or_false, false_or, exists_false, Evl.rLenS, rSum, wipe, tYes, exists_eq, exists_eq', rIxL, rIxT, rIxS, exists_and_right, gt_iff_lt, not_true_eq_false, not_false_eq_true, Bool.not_true, Bool.not_false, decide_eq_true_eq, Nat.reduceSub, Nat.reduceAdd, List.append_assoc, tChain, tDIn, tDNotIn, sDDel, tAug, ipI]
    refine isi_Dstr hd ?_
    simp only [tSeq, tIfS, tTest, tOp, tUn, tCB, tCons, tNil, tVar, tC, rI0, rI, rU, rEq, rNe, tRet, tRetN, tAsg, gName, gSub, tBM, tBM0, tNext, tB, tNot, tAnd, tOr, tIf, tCall, tDrop, tBreak, tCont, L2.start, tDGet, sDPut, tTup, tLst, tDNewK, tRevL, rCat, rAppend, rPop, rSetL, tAndV, tOrV, tNotV, tSl, tPart, tNoPart, tM1, gTup, gCons, gNil, cxK, cxnK, List.map_cons, List.map_nil, List.length_cons, List.length_nil, List.replicate, List.cons_append, List.nil_append, List.append_nil, List.set_cons_zero, List.set_cons_succ, List.getElem?_cons_zero, List.getElem?_cons_succ, Option.some.injEq, V.ref.injEq, V.int.injEq, V.str.injEq, V.bl.injEq, V.ty.injEq, exists_eq_left', exists_eq_left, exists_and_left, List.cons.injEq, and_true, true_and, sc_ii, sc_ss, sc_bb, sc_ni, sc_in, sc_is, sc_si, sc_nn, decide_true, decide_false, reduceCtorEq, Bool.false_eq_true, if_true, if_false, ite_true, ite_false, exists_const, eq_self, false_and, and_false, or_false, false_or, exists_false, Evl.rLenS, rSum, wipe, tYes, exists_eq, exists_eq', rIxL, rIxT, rIxS, exists_and_right, gt_iff_lt, not_true_eq_false, not_false_eq_true, Bool.not_true, Bool.not_false, decide_eq_true_eq, Nat.reduceSub, Nat.reduceAdd, List.append_assoc, tChain, tDIn, tDNotIn, sDDel, tAug, ipI]
    cases hd with
    | str z =>
      simp only [tSeq, tIfS, tTest, tOp, tUn, tCB, tCons, tNil, tVar, tC, rI0, rI, rU, rEq, rNe, tRet, tRetN, tAsg, gName, gSub, tBM, tBM0, tNext, tB, tNot, tAnd, tOr, tIf, tCall, tDrop, tBreak, tCont, L2.start, tDGet, sDPut, tTup, tLst, tDNewK, tRevL, rCat, rAppend, rPop, rSetL, tAndV, tOrV, tNotV, tSl, tPart, tNoPart, tM1, gTup, gCons, gNil, cxK, cxnK, List.map_cons, List.map_nil, List.length_cons, List.length_nil, List.replicate, List.cons_append, List.nil_append, List.append_nil, List.set_cons_zero, List.set_cons_succ, List.getElem?_cons_zero, List.getElem?_cons_succ, Option.some.injEq, V.ref.injEq, V.int.injEq, V.str.injEq, V.bl.injEq, V.ty.injEq, exists_eq_left', exists_eq_left, exists_and_left, List.cons.injEq, and_true, true_and, sc_ii, sc_ss, sc_bb, sc_ni, sc_in, sc_is, sc_si, sc_nn, decide_true, decide_false, reduceCtorEq, Bool.false_eq_true, if_true, if_false, ite_true, ite_false, exists_const, eq_self, false_and, and_false, or_false, false_or, exists_false, Evl.rLenS, rSum, wipe, tYes, exists_eq, exists_eq', rIxL, rIxT, rIxS, exists_and_right, gt_iff_lt, not_true_eq_false, not_false_eq_true, Bool.not_true, Bool.not_false, decide_eq_true_eq, Nat.reduceSub, Nat.reduceAdd, List.append_assoc, tChain, tDIn, tDNotIn, sDDel, tAug, ipI, isStrD]
      have zs : z.cps.toList.length = z.length := Array.length_toList
      have zl : z.length ≤ 1000 := of_decide_eq_true sz
      have q' : ∀ H', Kp [] H H' → Q (.bl (nameS z)) H' := q
      unfold nameS at q'
      refine ⟨small (by omega), ?_⟩
      by_cases h1 : 1 ≤ z.length
      · by_cases h8 : z.length ≤ 8
        · have e1 : (1 : Int) ≤ (z.length : Nat) := by omega
          have e8 : ((z.length : Nat) : Int) ≤ 8 := by omega
          rw [decide_eq_true h1, decide_eq_true h8] at q'
          rw [if_pos e1, if_pos e8]
          refine ⟨.str z, rfl, z, rfl, fun o no => lc_it walk_str (LowIn z o H) ⟨upd_same, Kp.new no⟩ (fun _ _ _ _ => True.intro) ?_ ?_⟩
          · rintro i x H1 H2 hi ⟨ho, kp⟩ ⟨rfl, c, hc, rfl⟩
            simp only [tSeq, tIfS, tTest, tOp, tUn, tCB, tCons, tNil, tVar, tC, rI0, rI, rU, rEq, rNe, tRet, tRetN, tAsg, gName, gSub, tBM, tBM0, tNext, tB, tNot, tAnd, tOr, tIf, tCall, tDrop, tBreak, tCont, L2.start, tDGet, sDPut, tTup, tLst, tDNewK, tRevL, rCat, rAppend, rPop, rSetL, tAndV, tOrV, tNotV, tSl, tPart, tNoPart, tM1, gTup, gCons, gNil, cxK, cxnK, List.map_cons, List.map_nil, List.length_cons, List.length_nil, List.replicate, List.cons_append, List.nil_append, List.append_nil, List.set_cons_zero, List.set_cons_succ, List.getElem?_cons_zero, List.getElem?_cons_succ, Option.some.injEq, V.ref.injEq, V.int.injEq, V.str.injEq, V.bl.injEq, V.ty.injEq, exists_eq_left', exists_eq_left, exists_and_left, List.cons.injEq, and_true, true_and, sc_ii, sc_ss, sc_bb, sc_ni, sc_in, sc_is, sc_si, sc_nn, decide_true, decide_false, reduceCtorEq, Bool.false_eq_true, if_true, if_false, ite_true, ite_false, exists_const, eq_self, false_and, and_false, or_false, false_or, exists_false, Evl.rLenS, rSum, wipe, tYes, exists_eq, exists_eq', rIxL, rIxT, rIxS, exists_and_right, gt_iff_lt, not_true_eq_false, not_false_eq_true, Bool.not_true, Bool.not_false, decide_eq_true_eq, Nat.reduceSub, Nat.reduceAdd, List.append_assoc, tChain, tDIn, tDNotIn, sDDel, tAug, ipI]
            refine ⟨c, rfl, _, ho, ?_, ?_, kp.wr no⟩
            · rw [List.length_map, List.length_take, zs]; exact smallL (by omega)
            · rw [upd_same, lets_mem, take_snoc (x := c) (by rw [← hc]; simp), List.map_append]; rfl
          · rintro H1 ⟨ho, kp⟩
            have q2 := q' H1 kp
            rw [← all_take] at q2
            refine ⟨_, z.cps.toList.map lowC, rfl, sq_l (ho.trans ?_), ?_⟩
            · rw [List.take_of_length_le (by simp), List.map_map]; rfl
            · simpa using q2
        · have e1 : (1 : Int) ≤ (z.length : Nat) := by omega
          have e8 : ¬ ((z.length : Nat) : Int) ≤ 8 := by omega
          rw [decide_eq_true h1, decide_eq_false h8] at q'
          rw [if_pos e1, if_neg e8]
          exact q' _ (Kp.refl _ _)
      · have e1 : ¬ (1 : Int) ≤ (z.length : Nat) := by omega
        rw [decide_eq_false h1] at q'
        rw [if_neg e1]
        exact q' _ (Kp.refl _ _)
    | _ => exact q H (Kp.refl _ _)

def spBelow : Sp := fun vs H Q _ => ∃ (v : V) (d : PyData) (m : Int), vs = [v, .int m] ∧ Dq H v d ∧ Q (.bl (belowD m d)) H
theorem ok_is_below {f : Addr} {fd : FuncData} (D : Df K mg "is_below" s_is_below ["value", "bound"] f fd) (T : Bt K w mg T_FORMS T_SIGNS es n tL) : FnOk P w K mg base CX0 1 f fd ["value", "bound"] spBelow := by
  refine D.F.ok sc_is_below (fun vs H Q E h => ?_) (fun cdv A outer s H vs Q E hr h => ?_)
  · obtain ⟨v, d, m, rfl, _⟩ := h
    rfl
  · obtain ⟨v, d, m, rfl, hd, q⟩ := h
    refine ⟨_, (pss_one (ps_ret (pe_and (pe_callB (id := "isinstance") (r := rIsi K) call_isi (by rfl) T.b_isinstance (by decide +kernel) (pa_cons (pv 0) (pa_cons (pe_bltn (v := .ty "int") (by rfl) T.b_int (by decide +kernel) rfl) pa_nil))) (pe_and (pe_not (pe_callB (id := "isinstance") (r := rIsi K) call_isi (by rfl) T.b_isinstance (by decide +kernel) (pa_cons (pv 0) (pa_cons (pe_bltn (v := .ty "bool") (by rfl) T.b_bool (by decide +kernel) rfl) pa_nil)))) (pe_one (pe_chain op_le op_lt pe_int (pv 0) (pv 1))))))), ?_⟩
    simp only [tSeq, tIfS, tTest, tOp, tUn, tCB, tCons, tNil, tVar, tC, rI0, rI, rU, rEq, rNe, tRet, tRetN, tAsg, gName, gSub, tBM, tBM0, tNext, tB, tNot, tAnd, tOr, tIf, tCall, tDrop, tBreak, tCont, L2.start, tDGet, sDPut, tTup, tLst, tDNewK, tRevL, rCat, rAppend, rPop, rSetL, tAndV, tOrV, tNotV, tSl, tPart, tNoPart, tM1, gTup, gCons, gNil, cxK, cxnK, List.map_cons, List.map_nil, List.length_cons, List.length_nil, List.replicate, List.cons_append, List.nil_append, List.append_nil, List.set_cons_zero, List.set_cons_succ, List.getElem?_cons_zero, List.getElem?_cons_succ, Option.some.injEq, V.ref.injEq, V.int.injEq, V.str.injEq, V.bl.injEq, V.ty.injEq, exists_eq_left', exists_eq_left, exists_and_left, List.cons.injEq, and_true, true_and, sc_ii, sc_ss, sc_bb, sc_ni, sc_in, sc_is, sc_si, sc_nn, decide_true, decide_false, reduceCtorEq, Bool.false_eq_true, if_true, if_false, ite_true, ite_false, exists_const, eq_self, false_and, and_false, or_false, false_or, exists_false, Evl.rLenS, rSum, wipe, tYes, exists_eq, exists_eq', rIxL, rIxT, rIxS, exists_and_right, gt_iff_lt, not_true_eq_false, not_false_eq_true, Bool.not_true, Bool.not_false, decide_eq_true_eq, Nat.reduceSub, Nat.reduceAdd, List.append_assoc, tChain, tDIn, tDNotIn, sDDel, tAug, ipI]
    refine isi_Dint hd ?_
    cases hd with
    | int i =>
      simp only [tSeq, tIfS, tTest, tOp, tUn, tCB, tCons, tNil, tVar, tC, rI0, rI, rU, rEq, rNe, tRet, tRetN, tAsg, gName, gSub, tBM, tBM0, tNext, tB, tNot, tAnd, tOr, tIf, tCall, tDrop, tBreak, tCont, L2.start, tDGet, sDPut, tTup, tLst, tDNewK, tRevL, rCat, rAppend, rPop, rSetL, tAndV, tOrV, tNotV, tSl, tPart, tNoPart, tM1, gTup, gCons, gNil, cxK, cxnK, List.map_cons, List.map_nil, List.length_cons, List.length_nil, List.replicate, List.cons_append, List.nil_append, List.append_nil, List.set_cons_zero, List.set_cons_succ, List.getElem?_cons_zero, List.getElem?_cons_succ, Option.some.injEq, V.ref.injEq, V.int.injEq, V.str.injEq, V.bl.injEq, V.ty.injEq, exists_eq_left', exists_eq_left, exists_and_left, List.cons.injEq, and_true, true_and, sc_ii, sc_ss, sc_bb, sc_ni, sc_in, sc_is, sc_si, sc_nn, decide_true, decide_false, reduceCtorEq, Bool.false_eq_true, if_true, if_false, ite_true, ite_false, exists_const, eq_self, false_and, and_false, or_false, false_or, exists_false, Evl.rLenS, rSum, wipe, tYes, exists_eq, exists_eq', rIxL, rIxT, rIxS, exists_and_right, gt_iff_lt, not_true_eq_false, not_false_eq_true, Bool.not_true, Bool.not_false, decide_eq_true_eq, Nat.reduceSub, Nat.reduceAdd, List.append_assoc, tChain, tDIn, tDNotIn, sDDel, tAug, ipI, isIntD]
      refine isi_int_bool ?_
      simp only [tSeq, tIfS, tTest, tOp, tUn, tCB, tCons, tNil, tVar, tC, rI0, rI, rU, rEq, rNe, tRet, tRetN, tAsg, gName, gSub, tBM, tBM0, tNext, tB, tNot, tAnd, tOr, tIf, tCall, tDrop, tBreak, tCont, L2.start, tDGet, sDPut, tTup, tLst, tDNewK, tRevL, rCat, rAppend, rPop, rSetL, tAndV, tOrV, tNotV, tSl, tPart, tNoPart, tM1, gTup, gCons, gNil, cxK, cxnK, List.map_cons, List.map_nil, List.length_cons, List.length_nil, List.replicate, List.cons_append, List.nil_append, List.append_nil, List.set_cons_zero, List.set_cons_succ, List.getElem?_cons_zero, List.getElem?_cons_succ, Option.some.injEq, V.ref.injEq, V.int.injEq, V.str.injEq, V.bl.injEq, V.ty.injEq, exists_eq_left', exists_eq_left, exists_and_left, List.cons.injEq, and_true, true_and, sc_ii, sc_ss, sc_bb, sc_ni, sc_in, sc_is, sc_si, sc_nn, decide_true, decide_false, reduceCtorEq, Bool.false_eq_true, if_true, if_false, ite_true, ite_false, exists_const, eq_self, false_and, and_false, or_false, false_or, exists_false, Evl.rLenS, rSum, wipe, tYes, exists_eq, exists_eq', rIxL, rIxT, rIxS, exists_and_right, gt_iff_lt, not_true_eq_false, not_false_eq_true, Bool.not_true, Bool.not_false, decide_eq_true_eq, Nat.reduceSub, Nat.reduceAdd, List.append_assoc, tChain, tDIn, tDNotIn, sDDel, tAug, ipI]
      by_cases h0 : 0 ≤ i
      · simp only [h0, decide_true, if_true]
        have q' : Q (.bl (decide (0 ≤ i) && decide (i < m))) H := q
        rw [decide_eq_true h0] at q'
        exact q'
      · simp only [h0, decide_false, Bool.false_eq_true, if_false]
        have q' : Q (.bl (decide (0 ≤ i) && decide (i < m))) H := q
        rw [decide_eq_false h0] at q'
        exact q'
    | bl b =>
      simp only [tSeq, tIfS, tTest, tOp, tUn, tCB, tCons, tNil, tVar, tC, rI0, rI, rU, rEq, rNe, tRet, tRetN, tAsg, gName, gSub, tBM, tBM0, tNext, tB, tNot, tAnd, tOr, tIf, tCall, tDrop, tBreak, tCont, L2.start, tDGet, sDPut, tTup, tLst, tDNewK, tRevL, rCat, rAppend, rPop, rSetL, tAndV, tOrV, tNotV, tSl, tPart, tNoPart, tM1, gTup, gCons, gNil, cxK, cxnK, List.map_cons, List.map_nil, List.length_cons, List.length_nil, List.replicate, List.cons_append, List.nil_append, List.append_nil, List.set_cons_zero, List.set_cons_succ, List.getElem?_cons_zero, List.getElem?_cons_succ, Option.some.injEq, V.ref.injEq, V.int.injEq, V.str.injEq, V.bl.injEq, V.ty.injEq, exists_eq_left', exists_eq_left, exists_and_left, List.cons.injEq, and_true, true_and, sc_ii, sc_ss, sc_bb, sc_ni, sc_in, sc_is, sc_si, sc_nn, decide_true, decide_false, reduceCtorEq, Bool.false_eq_true, if_true, if_false, ite_true, ite_false, exists_const, eq_self, false_and, and_false, or_false, false_or, exists_false, Evl.rLenS, rSum, wipe, tYes, exists_eq, exists_eq', rIxL, rIxT, rIxS, exists_and_right, gt_iff_lt, not_true_eq_false, not_false_eq_true, Bool.not_true, Bool.not_false, decide_eq_true_eq, Nat.reduceSub, Nat.reduceAdd, List.append_assoc, tChain, tDIn, tDNotIn, sDDel, tAug, ipI, isIntD]
      refine isi_bl_bool ?_
      simp only [tSeq, tIfS, tTest, tOp, tUn, tCB, tCons, tNil, tVar, tC, rI0, rI, rU, rEq, rNe, tRet, tRetN, tAsg, gName, gSub, tBM, tBM0, tNext, tB, tNot, tAnd, tOr, tIf, tCall, tDrop, tBreak, tCont, L2.start, tDGet, sDPut, tTup, tLst, tDNewK, tRevL, rCat, rAppend, rPop, rSetL, tAndV, tOrV, tNotV, tSl, tPart, tNoPart, tM1, gTup, gCons, gNil, cxK, cxnK, List.map_cons, List.map_nil, List.length_cons, List.length_nil, List.replicate, List.cons_append, List.nil_append, List.append_nil, List.set_cons_zero, List.set_cons_succ, List.getElem?_cons_zero, List.getElem?_cons_succ, Option.some.injEq, V.ref.injEq, V.int.injEq, V.str.injEq, V.bl.injEq, V.ty.injEq, exists_eq_left', exists_eq_left, exists_and_left, List.cons.injEq, and_true, true_and, sc_ii, sc_ss, sc_bb, sc_ni, sc_in, sc_is, sc_si, sc_nn, decide_true, decide_false, reduceCtorEq, Bool.false_eq_true, if_true, if_false, ite_true, ite_false, exists_const, eq_self, false_and, and_false, or_false, false_or, exists_false, Evl.rLenS, rSum, wipe, tYes, exists_eq, exists_eq', rIxL, rIxT, rIxS, exists_and_right, gt_iff_lt, not_true_eq_false, not_false_eq_true, Bool.not_true, Bool.not_false, decide_eq_true_eq, Nat.reduceSub, Nat.reduceAdd, List.append_assoc, tChain, tDIn, tDNotIn, sDDel, tAug, ipI]
      exact q
    | _ =>
      simp only [tSeq, tIfS, tTest, tOp, tUn, tCB, tCons, tNil, tVar, tC, rI0, rI, rU, rEq, rNe, tRet, tRetN, tAsg, gName, gSub, tBM, tBM0, tNext, tB, tNot, tAnd, tOr, tIf, tCall, tDrop, tBreak, tCont, L2.start, tDGet, sDPut, tTup, tLst, tDNewK, tRevL, rCat, rAppend, rPop, rSetL, tAndV, tOrV, tNotV, tSl, tPart, tNoPart, tM1, gTup, gCons, gNil, cxK, cxnK, List.map_cons, List.map_nil, List.length_cons, List.length_nil, List.replicate, List.cons_append, List.nil_append, List.append_nil, List.set_cons_zero, List.set_cons_succ, List.getElem?_cons_zero, List.getElem?_cons_succ, Option.some.injEq, V.ref.injEq, V.int.injEq, V.str.injEq, V.bl.injEq, V.ty.injEq, exists_eq_left', exists_eq_left, exists_and_left, List.cons.injEq, and_true, true_and, sc_ii, sc_ss, sc_bb, sc_ni, sc_in, sc_is, sc_si, sc_nn, decide_true, decide_false, reduceCtorEq, Bool.false_eq_true, if_true, if_false, ite_true, ite_false, exists_const, eq_self, false_and, and_false, or_false, false_or, exists_false, Evl.rLenS, rSum, wipe, tYes, exists_eq, exists_eq', rIxL, rIxT, rIxS, exists_and_right, gt_iff_lt, not_true_eq_false, not_false_eq_true, Bool.not_true, Bool.not_false, decide_eq_true_eq, Nat.reduceSub, Nat.reduceAdd, List.append_assoc, tChain, tDIn, tDNotIn, sDDel, tAug, ipI, isIntD]
      exact q
theorem ok_is_number {f : Addr} {fd : FuncData} (D : Df K mg "is_number" s_is_number ["value"] f fd) (T : Bt K w mg T_FORMS T_SIGNS es n tL) {fb : Addr} {fdb : FuncData} (D_is_below : Df K mg "is_below" s_is_below ["value", "bound"] fb fdb) (G_is_below : FnOk P w K mg base CX0 1 fb fdb ["value", "bound"] spBelow) :
    FnOk P w K mg base CX0 2 f fd ["value"] (spD (fun _ => True) (belowD 10)) := by
  refine D.F.ok sc_is_number (fun vs H Q E h => ?_) (fun cdv A outer s H vs Q E hr h => ?_)
  · obtain ⟨v, d, rfl, _⟩ := h
    rfl
  · obtain ⟨v, d, rfl, hd, _, _, q⟩ := h
    refine ⟨_, (pss_one (ps_ret (pe_call G_is_below (hr.mono (by decide)) rfl D_is_below.g D_is_below.F.kp D_is_below.b .nil pass0 (pa_cons (pv 0) (pa_cons pe_int pa_nil))))), ?_⟩
    simp only [tSeq, tIfS, tTest, tOp, tUn, tCB, tCons, tNil, tVar, tC, rI0, rI, rU, rEq, rNe, tRet, tRetN, tAsg, gName, gSub, tBM, tBM0, tNext, tB, tNot, tAnd, tOr, tIf, tCall, tDrop, tBreak, tCont, L2.start, tDGet, sDPut, tTup, tLst, tDNewK, tRevL, rCat, rAppend, rPop, rSetL, tAndV, tOrV, tNotV, tSl, tPart, tNoPart, tM1, gTup, gCons, gNil, cxK, cxnK, List.map_cons, List.map_nil, List.length_cons, List.length_nil, List.replicate, List.cons_append, List.nil_append, List.append_nil, List.set_cons_zero, List.set_cons_succ, List.getElem?_cons_zero, List.getElem?_cons_succ, Option.some.injEq, V.ref.injEq, V.int.injEq, V.str.injEq, V.bl.injEq, V.ty.injEq, exists_eq_left', exists_eq_left, exists_and_left, List.cons.injEq, and_true, true_and, sc_ii, sc_ss, sc_bb, sc_ni, sc_in, sc_is, sc_si, sc_nn, decide_true, decide_false, reduceCtorEq, Bool.false_eq_true, if_true, if_false, ite_true, ite_false, exists_const, eq_self, false_and, and_false, or_false, false_or, exists_false, Evl.rLenS, rSum, wipe, tYes, exists_eq, exists_eq', rIxL, rIxT, rIxS, exists_and_right, gt_iff_lt, not_true_eq_false, not_false_eq_true, Bool.not_true, Bool.not_false, decide_eq_true_eq, Nat.reduceSub, Nat.reduceAdd, List.append_assoc, tChain, tDIn, tDNotIn, sDDel, tAug, ipI]
    exact ⟨v, d, 10, rfl, hd, q H (Kp.refl _ _)⟩
/-- ahead of the i-th item of a row of data: what was told of those before stands in the new list -/
def AllIn {α : Type} (g : α → Bool) (ds : List α) (D : Addr) (H : Hp) (i : Nat) (H' : Hp) : Prop := H' D = some (.lst ((ds.take i).map fun d => V.bl (g d))) ∧ Kp [] H H'
theorem allIn_step {α : Type} {g : α → Bool} {ds : List α} {D : Addr} {H H1 H2 : Hp} {i : Nat} {d : α} (hn : H D = none) (h : AllIn g ds D H i H1) (k : Kp [] H1 H2) (e : ds[i]? = some d) (hl : ds.length ≤ 1000) :
    ∃ acc, H2 D = some (.lst acc) ∧ acc.length < sizeLine ∧ AllIn g ds D H (i + 1) (upd H2 D (.lst (acc ++ [V.bl (g d)]))) := by
  refine ⟨_, k _ _ not0 h.1, ?_, ?_, (h.2.trans k).wr hn⟩
  · rw [List.length_map, List.length_take]; exact smallL (by omega)
  · rw [upd_same, take_snoc e, List.map_append]; rfl
theorem allIn_end {α : Type} {K : PySem.W.Frag} {g : α → Bool} {ds : List α} {D : Addr} {H H1 : Hp} {Q : VK} (h : AllIn g ds D H ds.length H1) (q : Q (.bl (ds.all g)) H1) : rAll K [.ref D] H1 Q := by
  refine ⟨D, ds.map g, rfl, sq_l (h.1.trans ?_), ?_⟩
  · rw [List.take_length, List.map_map]; rfl
  · rw [all_take]; exact q
theorem ok_is_place {f : Addr} {fd : FuncData} (D : Df K mg "is_place" s_is_place ["part"] f fd) (T : Bt K w mg T_FORMS T_SIGNS es n tL) {fb : Addr} {fdb : FuncData} (D_is_name : Df K mg "is_name" s_is_name ["value"] fb fdb) (G_is_name : FnOk P w K mg base CX0 1 fb fdb ["value"] (spD (fun _ => True) nameD)) :
    FnOk P w K mg base CX0 2 f fd ["part"] (spD (fun _ => True) placeD) := by
  refine D.F.ok sc_is_place (fun vs H Q E h => ?_) (fun cdv A outer s H vs Q E hr h => ?_)
  · obtain ⟨v, d, rfl, _⟩ := h
    rfl
  · obtain ⟨v, d, rfl, hd, sz, _, q⟩ := h
    refine ⟨_, (pss_cons (ps_if (pt_val (pe_callB (id := "isinstance") (r := rIsi K) call_isi (by rfl) T.b_isinstance (by decide +kernel) (pa_cons (pv 0) (pa_cons (pe_bltn (v := .ty "tuple") (by rfl) T.b_tuple (by decide +kernel) rfl) pa_nil)))) (pss_one (ps_ret (pe_and (pe_cmpR op_eq (pe_callB (id := "len") (r := Evl.rLenS K) call_len_seq (by rfl) T.b_len PySem.boot_len (pa_cons (pv 0) pa_nil)) pe_int (nomark _)) (pe_one (pe_callB (id := "all") (r := rAll K) (cr_all rfl) (by rfl) T.b_all (by decide +kernel) (pa_cons (pe_lc (own := [("name", 1)]) (g := (gName 1)) (tt := tYes) rfl sc_is_place.nd (pi_tup (pv 0)) (blkOk_by (N := ["part", "name"]) (sc := defScope s_is_place) (by decide +kernel)) (fun _ _ _ _ _ => (pg_name (i := 1) sc_is_place.nd rfl (Or.inl rfl))) (fun _ _ _ _ _ => pts_nil) (fun _ _ _ _ _ => (pe_call G_is_name (hr.mono (by decide)) rfl D_is_name.g D_is_name.F.kp D_is_name.b .nil pass0 (pa_cons (pv 1) pa_nil)))) pa_nil)))))) pss_nil)
      (pss_one (ps_ret (pe_call G_is_name (hr.mono (by decide)) rfl D_is_name.g D_is_name.F.kp D_is_name.b .nil pass0 (pa_cons (pv 0) pa_nil))))), ?_⟩
    simp only [tSeq, tIfS, tTest, tOp, tUn, tCB, tCons, tNil, tVar, tC, rI0, rI, rU, rEq, rNe, tRet, tRetN, tAsg, gName, gSub, tBM, tBM0, tNext, tB, tNot, tAnd, tOr, tIf, tCall, tDrop, tBreak, tCont, L2.start, tDGet, sDPut, tTup, tLst, tDNewK, tRevL, rCat, rAppend, rPop, rSetL, tAndV, tOrV, tNotV, tSl, tPart, tNoPart, tM1, gTup, gCons, gNil, cxK, cxnK, List.map_cons, List.map_nil, List.length_cons, List.length_nil, List.replicate, List.cons_append, List.nil_append, List.append_nil, List.set_cons_zero, List.set_cons_succ, List.getElem?_cons_zero, List.getElem?_cons_succ, Option.some.injEq, V.ref.injEq, V.int.injEq, V.str.injEq, V.bl.injEq, V.ty.injEq, exists_eq_left', exists_eq_left, exists_and_left, List.cons.injEq, and_true, true_and, sc_ii, sc_ss, sc_bb, sc_ni, sc_in, sc_is, sc_si, sc_nn, decide_true, decide_false, reduceCtorEq, Bool.false_eq_true, if_true, if_false, ite_true, ite_false, exists_const, eq_self, false_and, and_false, or_false, false_or, exists_false, Evl.rLenS, rSum, wipe, tYes, exists_eq, exists_eq', rIxL, rIxT, rIxS, exists_and_right, gt_iff_lt, not_true_eq_false, not_false_eq_true, Bool.not_true, Bool.not_false, decide_eq_true_eq, Nat.reduceSub, Nat.reduceAdd, List.append_assoc, tChain, tDIn, tDNotIn, sDDel, tAug, ipI]
    refine isi_Dtup hd ?_
    have hd0 := hd
    cases hd with
    | @tup a xs ds e ha =>
      simp only [tSeq, tIfS, tTest, tOp, tUn, tCB, tCons, tNil, tVar, tC, rI0, rI, rU, rEq, rNe, tRet, tRetN, tAsg, gName, gSub, tBM, tBM0, tNext, tB, tNot, tAnd, tOr, tIf, tCall, tDrop, tBreak, tCont, L2.start, tDGet, sDPut, tTup, tLst, tDNewK, tRevL, rCat, rAppend, rPop, rSetL, tAndV, tOrV, tNotV, tSl, tPart, tNoPart, tM1, gTup, gCons, gNil, cxK, cxnK, List.map_cons, List.map_nil, List.length_cons, List.length_nil, List.replicate, List.cons_append, List.nil_append, List.append_nil, List.set_cons_zero, List.set_cons_succ, List.getElem?_cons_zero, List.getElem?_cons_succ, Option.some.injEq, V.ref.injEq, V.int.injEq, V.str.injEq, V.bl.injEq, V.ty.injEq, exists_eq_left', exists_eq_left, exists_and_left, List.cons.injEq, and_true, true_and, sc_ii, sc_ss, sc_bb, sc_ni, sc_in, sc_is, sc_si, sc_nn, decide_true, decide_false, reduceCtorEq, Bool.false_eq_true, if_true, if_false, ite_true, ite_false, exists_const, eq_self, false_and, and_false, or_false, false_or, exists_false, Evl.rLenS, rSum, wipe, tYes, exists_eq, exists_eq', rIxL, rIxT, rIxS, exists_and_right, gt_iff_lt, not_true_eq_false, not_false_eq_true, Bool.not_true, Bool.not_false, decide_eq_true_eq, Nat.reduceSub, Nat.reduceAdd, List.append_assoc, tChain, tDIn, tDNotIn, sDDel, tAug, ipI, isTupD]
      have hl := ha.len
      refine ⟨xs, .inr (sq_t e), ?_⟩
      rw [hl]
      have q' : ∀ H', Kp [] H H' → Q (.bl (ds.length == 2 && ds.all nameD)) H' := q
      by_cases h2 : ds.length = 2
      · have e2 : ((ds.length : Nat) : Int) = 2 := by omega
        rw [beq_iff_eq.mpr h2] at q'
        simp only [tSeq, tIfS, tTest, tOp, tUn, tCB, tCons, tNil, tVar, tC, rI0, rI, rU, rEq, rNe, tRet, tRetN, tAsg, gName, gSub, tBM, tBM0, tNext, tB, tNot, tAnd, tOr, tIf, tCall, tDrop, tBreak, tCont, L2.start, tDGet, sDPut, tTup, tLst, tDNewK, tRevL, rCat, rAppend, rPop, rSetL, tAndV, tOrV, tNotV, tSl, tPart, tNoPart, tM1, gTup, gCons, gNil, cxK, cxnK, List.map_cons, List.map_nil, List.length_cons, List.length_nil, List.replicate, List.cons_append, List.nil_append, List.append_nil, List.set_cons_zero, List.set_cons_succ, List.getElem?_cons_zero, List.getElem?_cons_succ, Option.some.injEq, V.ref.injEq, V.int.injEq, V.str.injEq, V.bl.injEq, V.ty.injEq, exists_eq_left', exists_eq_left, exists_and_left, List.cons.injEq, and_true, true_and, sc_ii, sc_ss, sc_bb, sc_ni, sc_in, sc_is, sc_si, sc_nn, decide_true, decide_false, reduceCtorEq, Bool.false_eq_true, if_true, if_false, ite_true, ite_false, exists_const, eq_self, false_and, and_false, or_false, false_or, exists_false, Evl.rLenS, rSum, wipe, tYes, exists_eq, exists_eq', rIxL, rIxT, rIxS, exists_and_right, gt_iff_lt, not_true_eq_false, not_false_eq_true, Bool.not_true, Bool.not_false, decide_eq_true_eq, Nat.reduceSub, Nat.reduceAdd, List.append_assoc, tChain, tDIn, tDNotIn, sDDel, tAug, ipI, e2]
        refine ⟨.ref a, rfl, a, rfl, ⟨_, sq_t e⟩, fun o no => lc_tup (xs := xs) (AllIn nameD ds o H) ⟨upd_same, Kp.new no⟩ (fun i H1 _ h => h.2.tp not0 (sq_t e)) ?_ ?_⟩
        · rintro i x H1 hx h
          obtain ⟨d, ed, hdx⟩ := ha.get hx
          simp only [tSeq, tIfS, tTest, tOp, tUn, tCB, tCons, tNil, tVar, tC, rI0, rI, rU, rEq, rNe, tRet, tRetN, tAsg, gName, gSub, tBM, tBM0, tNext, tB, tNot, tAnd, tOr, tIf, tCall, tDrop, tBreak, tCont, L2.start, tDGet, sDPut, tTup, tLst, tDNewK, tRevL, rCat, rAppend, rPop, rSetL, tAndV, tOrV, tNotV, tSl, tPart, tNoPart, tM1, gTup, gCons, gNil, cxK, cxnK, List.map_cons, List.map_nil, List.length_cons, List.length_nil, List.replicate, List.cons_append, List.nil_append, List.append_nil, List.set_cons_zero, List.set_cons_succ, List.getElem?_cons_zero, List.getElem?_cons_succ, Option.some.injEq, V.ref.injEq, V.int.injEq, V.str.injEq, V.bl.injEq, V.ty.injEq, exists_eq_left', exists_eq_left, exists_and_left, List.cons.injEq, and_true, true_and, sc_ii, sc_ss, sc_bb, sc_ni, sc_in, sc_is, sc_si, sc_nn, decide_true, decide_false, reduceCtorEq, Bool.false_eq_true, if_true, if_false, ite_true, ite_false, exists_const, eq_self, false_and, and_false, or_false, false_or, exists_false, Evl.rLenS, rSum, wipe, tYes, exists_eq, exists_eq', rIxL, rIxT, rIxS, exists_and_right, gt_iff_lt, not_true_eq_false, not_false_eq_true, Bool.not_true, Bool.not_false, decide_eq_true_eq, Nat.reduceSub, Nat.reduceAdd, List.append_assoc, tChain, tDIn, tDNotIn, sDDel, tAug, ipI]
          refine ⟨x, d, rfl, hdx.kp h.2, szAll_mem sz d (List.mem_of_getElem? ed), True.intro, fun H2 k2 => allIn_step no h k2 ed (by omega)⟩
        · intro H1 h
          rw [hl] at h
          exact allIn_end h (q' _ h.2)
      · have e2 : ((ds.length : Nat) : Int) ≠ 2 := by omega
        rw [beq_eq_false_iff_ne.mpr h2] at q'
        simp only [tSeq, tIfS, tTest, tOp, tUn, tCB, tCons, tNil, tVar, tC, rI0, rI, rU, rEq, rNe, tRet, tRetN, tAsg, gName, gSub, tBM, tBM0, tNext, tB, tNot, tAnd, tOr, tIf, tCall, tDrop, tBreak, tCont, L2.start, tDGet, sDPut, tTup, tLst, tDNewK, tRevL, rCat, rAppend, rPop, rSetL, tAndV, tOrV, tNotV, tSl, tPart, tNoPart, tM1, gTup, gCons, gNil, cxK, cxnK, List.map_cons, List.map_nil, List.length_cons, List.length_nil, List.replicate, List.cons_append, List.nil_append, List.append_nil, List.set_cons_zero, List.set_cons_succ, List.getElem?_cons_zero, List.getElem?_cons_succ, Option.some.injEq, V.ref.injEq, V.int.injEq, V.str.injEq, V.bl.injEq, V.ty.injEq, exists_eq_left', exists_eq_left, exists_and_left, List.cons.injEq, and_true, true_and, sc_ii, sc_ss, sc_bb, sc_ni, sc_in, sc_is, sc_si, sc_nn, decide_true, decide_false, reduceCtorEq, Bool.false_eq_true, if_true, if_false, ite_true, ite_false, exists_const, eq_self, false_and, and_false, or_false, false_or, exists_false, Evl.rLenS, rSum, wipe, tYes, exists_eq, exists_eq', rIxL, rIxT, rIxS, exists_and_right, gt_iff_lt, not_true_eq_false, not_false_eq_true, Bool.not_true, Bool.not_false, decide_eq_true_eq, Nat.reduceSub, Nat.reduceAdd, List.append_assoc, tChain, tDIn, tDNotIn, sDDel, tAug, ipI, e2]
        exact q' _ (Kp.refl _ _)
    | _ =>
      simp only [tSeq, tIfS, tTest, tOp, tUn, tCB, tCons, tNil, tVar, tC, rI0, rI, rU, rEq, rNe, tRet, tRetN, tAsg, gName, gSub, tBM, tBM0, tNext, tB, tNot, tAnd, tOr, tIf, tCall, tDrop, tBreak, tCont, L2.start, tDGet, sDPut, tTup, tLst, tDNewK, tRevL, rCat, rAppend, rPop, rSetL, tAndV, tOrV, tNotV, tSl, tPart, tNoPart, tM1, gTup, gCons, gNil, cxK, cxnK, List.map_cons, List.map_nil, List.length_cons, List.length_nil, List.replicate, List.cons_append, List.nil_append, List.append_nil, List.set_cons_zero, List.set_cons_succ, List.getElem?_cons_zero, List.getElem?_cons_succ, Option.some.injEq, V.ref.injEq, V.int.injEq, V.str.injEq, V.bl.injEq, V.ty.injEq, exists_eq_left', exists_eq_left, exists_and_left, List.cons.injEq, and_true, true_and, sc_ii, sc_ss, sc_bb, sc_ni, sc_in, sc_is, sc_si, sc_nn, decide_true, decide_false, reduceCtorEq, Bool.false_eq_true, if_true, if_false, ite_true, ite_false, exists_const, eq_self, false_and, and_false, or_false, false_or, exists_false, Evl.rLenS, rSum, wipe, tYes, exists_eq, exists_eq', rIxL, rIxT, rIxS, exists_and_right, gt_iff_lt, not_true_eq_false, not_false_eq_true, Bool.not_true, Bool.not_false, decide_eq_true_eq, Nat.reduceSub, Nat.reduceAdd, List.append_assoc, tChain, tDIn, tDNotIn, sDDel, tAug, ipI, isTupD]
      exact ⟨_, _, rfl, hd0, sz, True.intro, q⟩
theorem ok_is_worth {f : Addr} {fd : FuncData} (D : Df K mg "is_worth" s_is_worth ["part"] f fd) (T : Bt K w mg T_FORMS T_SIGNS es n tL) {fb : Addr} {fdb : FuncData} (D_is_name : Df K mg "is_name" s_is_name ["value"] fb fdb) (G_is_name : FnOk P w K mg base CX0 1 fb fdb ["value"] (spD (fun _ => True) nameD))
    {fm : Addr} {fdm : FuncData} (D_is_number : Df K mg "is_number" s_is_number ["value"] fm fdm) (G_is_number : FnOk P w K mg base CX0 2 fm fdm ["value"] (spD (fun _ => True) (belowD 10))) : FnOk P w K mg base CX0 3 f fd ["part"] (spD (fun _ => True) worthD) := by
  refine D.F.ok sc_is_worth (fun vs H Q E h => ?_) (fun cdv A outer s H vs Q E hr h => ?_)
  · obtain ⟨v, d, rfl, _⟩ := h
    rfl
  · obtain ⟨v, d, rfl, hd, sz, _, q⟩ := h
    refine ⟨_, (pss_cons (ps_if (PW.pt (pw_or (pt_not (pt_val (pe_callB (id := "isinstance") (r := rIsi K) call_isi (by rfl) T.b_isinstance (by decide +kernel) (pa_cons (pv 0) (pa_cons (pe_bltn (v := .ty "tuple") (by rfl) T.b_tuple (by decide +kernel) rfl) pa_nil))))) (pw_or1 (pt_not (pt_chain op_le op_le pe_int (pe_callB (id := "len") (r := Evl.rLenS K) call_len_seq (by rfl) T.b_len PySem.boot_len (pa_cons (pv 0) pa_nil)) pe_int))))) (pss_one (ps_ret pe_bl)) pss_nil)
      (pss_one (ps_ret (pe_callB (id := "all") (r := rAll K) (cr_all rfl) (by rfl) T.b_all (by decide +kernel) (pa_cons (pe_lc (own := [("item", 1)]) (g := (gName 1)) (tt := tYes) rfl sc_is_worth.nd (pi_tup (pv 0)) (blkOk_by (N := ["part", "item"]) (sc := defScope s_is_worth) (by decide +kernel)) (fun _ _ _ _ _ => (pg_name (i := 1) sc_is_worth.nd rfl (Or.inl rfl))) (fun _ _ _ _ _ => pts_nil) (fun _ _ _ _ _ => (pe_or (pe_call G_is_name (hr.mono (by decide)) rfl D_is_name.g D_is_name.F.kp D_is_name.b .nil pass0 (pa_cons (pv 1) pa_nil)) (pe_one (pe_call G_is_number (hr.mono (by decide)) rfl D_is_number.g D_is_number.F.kp D_is_number.b .nil pass0 (pa_cons (pv 1) pa_nil)))))) pa_nil))))), ?_⟩
    simp only [tSeq, tIfS, tTest, tOp, tUn, tCB, tCons, tNil, tVar, tC, rI0, rI, rU, rEq, rNe, tRet, tRetN, tAsg, gName, gSub, tBM, tBM0, tNext, tB, tNot, tAnd, tOr, tIf, tCall, tDrop, tBreak, tCont, L2.start, tDGet, sDPut, tTup, tLst, tDNewK, tRevL, rCat, rAppend, rPop, rSetL, tAndV, tOrV, tNotV, tSl, tPart, tNoPart, tM1, gTup, gCons, gNil, cxK, cxnK, List.map_cons, List.map_nil, List.length_cons, List.length_nil, List.replicate, List.cons_append, List.nil_append, List.append_nil, List.set_cons_zero, List.set_cons_succ, List.getElem?_cons_zero, List.getElem?_cons_succ, Option.some.injEq, V.ref.injEq, V.int.injEq, V.str.injEq, V.bl.injEq, V.ty.injEq, exists_eq_left', exists_eq_left, exists_and_left, List.cons.injEq, and_true, true_and, sc_ii, sc_ss, sc_bb, sc_ni, sc_in, sc_is, sc_si, sc_nn, decide_true, decide_false, reduceCtorEq, Bool.false_eq_true, if_true, if_false, ite_true, ite_false, exists_const, eq_self, false_and, and_false, or_false, false_or, exists_false, Evl.rLenS, rSum, wipe, tYes, exists_eq, exists_eq', rIxL, rIxT, rIxS, exists_and_right, gt_iff_lt, not_true_eq_false, not_false_eq_true, Bool.not_true, Bool.not_false, decide_eq_true_eq, Nat.reduceSub, Nat.reduceAdd, List.append_assoc, tChain, tDIn, tDNotIn, sDDel, tAug, ipI]
    refine isi_Dtup hd ?_
    have hd0 := hd
    cases hd with
    | @tup a xs ds e ha =>
      simp only [tSeq, tIfS, tTest, tOp, tUn, tCB, tCons, tNil, tVar, tC, rI0, rI, rU, rEq, rNe, tRet, tRetN, tAsg, gName, gSub, tBM, tBM0, tNext, tB, tNot, tAnd, tOr, tIf, tCall, tDrop, tBreak, tCont, L2.start, tDGet, sDPut, tTup, tLst, tDNewK, tRevL, rCat, rAppend, rPop, rSetL, tAndV, tOrV, tNotV, tSl, tPart, tNoPart, tM1, gTup, gCons, gNil, cxK, cxnK, List.map_cons, List.map_nil, List.length_cons, List.length_nil, List.replicate, List.cons_append, List.nil_append, List.append_nil, List.set_cons_zero, List.set_cons_succ, List.getElem?_cons_zero, List.getElem?_cons_succ, Option.some.injEq, V.ref.injEq, V.int.injEq, V.str.injEq, V.bl.injEq, V.ty.injEq, exists_eq_left', exists_eq_left, exists_and_left, List.cons.injEq, and_true, true_and, sc_ii, sc_ss, sc_bb, sc_ni, sc_in, sc_is, sc_si, sc_nn, decide_true, decide_false, reduceCtorEq, Bool.false_eq_true, if_true, if_false, ite_true, ite_false, exists_const, eq_self, false_and, and_false, or_false, false_or, exists_false, Evl.rLenS, rSum, wipe, tYes, exists_eq, exists_eq', rIxL, rIxT, rIxS, exists_and_right, gt_iff_lt, not_true_eq_false, not_false_eq_true, Bool.not_true, Bool.not_false, decide_eq_true_eq, Nat.reduceSub, Nat.reduceAdd, List.append_assoc, tChain, tDIn, tDNotIn, sDDel, tAug, ipI, isTupD]
      have hl := ha.len
      refine ⟨xs, .inr (sq_t e), ?_⟩
      rw [hl]
      have q' : ∀ H', Kp [] H H' → Q (.bl (decide (1 ≤ ds.length) && (decide (ds.length ≤ 3) && ds.all fun d => nameD d || belowD 10 d))) H' := q
      by_cases h1 : 1 ≤ ds.length
      · by_cases h3 : ds.length ≤ 3
        · have e1 : (1 : Int) ≤ (ds.length : Nat) := by omega
          have e3 : ((ds.length : Nat) : Int) ≤ 3 := by omega
          rw [decide_eq_true h1, decide_eq_true h3] at q'
          simp only [tSeq, tIfS, tTest, tOp, tUn, tCB, tCons, tNil, tVar, tC, rI0, rI, rU, rEq, rNe, tRet, tRetN, tAsg, gName, gSub, tBM, tBM0, tNext, tB, tNot, tAnd, tOr, tIf, tCall, tDrop, tBreak, tCont, L2.start, tDGet, sDPut, tTup, tLst, tDNewK, tRevL, rCat, rAppend, rPop, rSetL, tAndV, tOrV, tNotV, tSl, tPart, tNoPart, tM1, gTup, gCons, gNil, cxK, cxnK, List.map_cons, List.map_nil, List.length_cons, List.length_nil, List.replicate, List.cons_append, List.nil_append, List.append_nil, List.set_cons_zero, List.set_cons_succ, List.getElem?_cons_zero, List.getElem?_cons_succ, Option.some.injEq, V.ref.injEq, V.int.injEq, V.str.injEq, V.bl.injEq, V.ty.injEq, exists_eq_left', exists_eq_left, exists_and_left, List.cons.injEq, and_true, true_and, sc_ii, sc_ss, sc_bb, sc_ni, sc_in, sc_is, sc_si, sc_nn, decide_true, decide_false, reduceCtorEq, Bool.false_eq_true, if_true, if_false, ite_true, ite_false, exists_const, eq_self, false_and, and_false, or_false, false_or, exists_false, Evl.rLenS, rSum, wipe, tYes, exists_eq, exists_eq', rIxL, rIxT, rIxS, exists_and_right, gt_iff_lt, not_true_eq_false, not_false_eq_true, Bool.not_true, Bool.not_false, decide_eq_true_eq, Nat.reduceSub, Nat.reduceAdd, List.append_assoc, tChain, tDIn, tDNotIn, sDDel, tAug, ipI, e1, e3]
          refine ⟨.ref a, rfl, a, rfl, ⟨_, sq_t e⟩, fun o no => lc_tup (xs := xs) (AllIn (fun d => nameD d || belowD 10 d) ds o H) ⟨upd_same, Kp.new no⟩ (fun i H1 _ h => h.2.tp not0 (sq_t e)) ?_ ?_⟩
          · rintro i x H1 hx h
            obtain ⟨d, ed, hdx⟩ := ha.get hx
            have szd := szAll_mem sz d (List.mem_of_getElem? ed)
            simp only [tSeq, tIfS, tTest, tOp, tUn, tCB, tCons, tNil, tVar, tC, rI0, rI, rU, rEq, rNe, tRet, tRetN, tAsg, gName, gSub, tBM, tBM0, tNext, tB, tNot, tAnd, tOr, tIf, tCall, tDrop, tBreak, tCont, L2.start, tDGet, sDPut, tTup, tLst, tDNewK, tRevL, rCat, rAppend, rPop, rSetL, tAndV, tOrV, tNotV, tSl, tPart, tNoPart, tM1, gTup, gCons, gNil, cxK, cxnK, List.map_cons, List.map_nil, List.length_cons, List.length_nil, List.replicate, List.cons_append, List.nil_append, List.append_nil, List.set_cons_zero, List.set_cons_succ, List.getElem?_cons_zero, List.getElem?_cons_succ, Option.some.injEq, V.ref.injEq, V.int.injEq, V.str.injEq, V.bl.injEq, V.ty.injEq, exists_eq_left', exists_eq_left, exists_and_left, List.cons.injEq, and_true, true_and, sc_ii, sc_ss, sc_bb, sc_ni, sc_in, sc_is, sc_si, sc_nn, decide_true, decide_false, reduceCtorEq, Bool.false_eq_true, if_true, if_false, ite_true, ite_false, exists_const, eq_self, false_and, and_false, or_false, false_or, exists_false, Evl.rLenS, rSum, wipe, tYes, exists_eq, exists_eq', rIxL, rIxT, rIxS, exists_and_right, gt_iff_lt, not_true_eq_false, not_false_eq_true, Bool.not_true, Bool.not_false, decide_eq_true_eq, Nat.reduceSub, Nat.reduceAdd, List.append_assoc, tChain, tDIn, tDNotIn, sDDel, tAug, ipI]
            refine ⟨x, d, rfl, hdx.kp h.2, szd, True.intro, fun H2 k2 => ?_⟩
            have go := fun H3 (k3 : Kp [] H1 H3) => allIn_step (g := fun d => nameD d || belowD 10 d) no h k3 ed (by omega)
            cases hn : nameD d with
            | true =>
              simp only [tSeq, tIfS, tTest, tOp, tUn, tCB, tCons, tNil, tVar, tC, rI0, rI, rU, rEq, rNe, tRet, tRetN, tAsg, gName, gSub, tBM, tBM0, tNext, tB, tNot, tAnd, tOr, tIf, tCall, tDrop, tBreak, tCont, L2.start, tDGet, sDPut, tTup, tLst, tDNewK, tRevL, rCat, rAppend, rPop, rSetL, tAndV, tOrV, tNotV, tSl, tPart, tNoPart, tM1, gTup, gCons, gNil, cxK, cxnK, List.map_cons, List.map_nil, List.length_cons, List.length_nil, List.replicate, List.cons_append, List.nil_append, List.append_nil, List.set_cons_zero, List.set_cons_succ, List.getElem?_cons_zero, List.getElem?_cons_succ, Option.some.injEq, V.ref.injEq, V.int.injEq, V.str.injEq, V.bl.injEq, V.ty.injEq, exists_eq_left', exists_eq_left, exists_and_left, List.cons.injEq, and_true, true_and, sc_ii, sc_ss, sc_bb, sc_ni, sc_in, sc_is, sc_si, sc_nn, decide_true, decide_false, reduceCtorEq, Bool.false_eq_true, if_true, if_false, ite_true, ite_false, exists_const, eq_self, false_and, and_false, or_false, false_or, exists_false, Evl.rLenS, rSum, wipe, tYes, exists_eq, exists_eq', rIxL, rIxT, rIxS, exists_and_right, gt_iff_lt, not_true_eq_false, not_false_eq_true, Bool.not_true, Bool.not_false, decide_eq_true_eq, Nat.reduceSub, Nat.reduceAdd, List.append_assoc, tChain, tDIn, tDNotIn, sDDel, tAug, ipI]
              have z := go H2 k2
              rw [hn] at z
              exact z
            | false =>
              simp only [tSeq, tIfS, tTest, tOp, tUn, tCB, tCons, tNil, tVar, tC, rI0, rI, rU, rEq, rNe, tRet, tRetN, tAsg, gName, gSub, tBM, tBM0, tNext, tB, tNot, tAnd, tOr, tIf, tCall, tDrop, tBreak, tCont, L2.start, tDGet, sDPut, tTup, tLst, tDNewK, tRevL, rCat, rAppend, rPop, rSetL, tAndV, tOrV, tNotV, tSl, tPart, tNoPart, tM1, gTup, gCons, gNil, cxK, cxnK, List.map_cons, List.map_nil, List.length_cons, List.length_nil, List.replicate, List.cons_append, List.nil_append, List.append_nil, List.set_cons_zero, List.set_cons_succ, List.getElem?_cons_zero, List.getElem?_cons_succ, Option.some.injEq, V.ref.injEq, V.int.injEq, V.str.injEq, V.bl.injEq, V.ty.injEq, exists_eq_left', exists_eq_left, exists_and_left, List.cons.injEq, and_true, true_and, sc_ii, sc_ss, sc_bb, sc_ni, sc_in, sc_is, sc_si, sc_nn, decide_true, decide_false, reduceCtorEq, Bool.false_eq_true, if_true, if_false, ite_true, ite_false, exists_const, eq_self, false_and, and_false, or_false, false_or, exists_false, Evl.rLenS, rSum, wipe, tYes, exists_eq, exists_eq', rIxL, rIxT, rIxS, exists_and_right, gt_iff_lt, not_true_eq_false, not_false_eq_true, Bool.not_true, Bool.not_false, decide_eq_true_eq, Nat.reduceSub, Nat.reduceAdd, List.append_assoc, tChain, tDIn, tDNotIn, sDDel, tAug, ipI]
              refine ⟨x, d, rfl, hdx.kp (h.2.trans k2), szd, True.intro, fun H3 k3 => ?_⟩
              have z := go H3 (k2.trans k3)
              rw [hn] at z
              exact z
          · intro H1 h
            rw [hl] at h
            exact allIn_end h (q' _ h.2)
        · have e1 : (1 : Int) ≤ (ds.length : Nat) := by omega
          have e3 : ¬ ((ds.length : Nat) : Int) ≤ 3 := by omega
          rw [decide_eq_true h1, decide_eq_false h3] at q'
          simp only [tSeq, tIfS, tTest, tOp, tUn, tCB, tCons, tNil, tVar, tC, rI0, rI, rU, rEq, rNe, tRet, tRetN, tAsg, gName, gSub, tBM, tBM0, tNext, tB, tNot, tAnd, tOr, tIf, tCall, tDrop, tBreak, tCont, L2.start, tDGet, sDPut, tTup, tLst, tDNewK, tRevL, rCat, rAppend, rPop, rSetL, tAndV, tOrV, tNotV, tSl, tPart, tNoPart, tM1, gTup, gCons, gNil, cxK, cxnK, List.map_cons, List.map_nil, List.length_cons, List.length_nil, List.replicate, List.cons_append, List.nil_append, List.append_nil, List.set_cons_zero, List.set_cons_succ, List.getElem?_cons_zero, List.getElem?_cons_succ, Option.some.injEq, V.ref.injEq, V.int.injEq, V.str.injEq, V.bl.injEq, V.ty.injEq, exists_eq_left', exists_eq_left, exists_and_left, List.cons.injEq, and_true, true_and, sc_ii, sc_ss, sc_bb, sc_ni, sc_in, sc_is, sc_si, sc_nn, decide_true, decide_false, reduceCtorEq, Bool.false_eq_true, if_true, if_false, ite_true, ite_false, exists_const, eq_self, false_and, and_false, or_false, false_or, exists_false, Evl.rLenS, rSum, wipe, tYes, exists_eq, exists_eq', rIxL, rIxT, rIxS, exists_and_right, gt_iff_lt, not_true_eq_false, not_false_eq_true, Bool.not_true, Bool.not_false, decide_eq_true_eq, Nat.reduceSub, Nat.reduceAdd, List.append_assoc, tChain, tDIn, tDNotIn, sDDel, tAug, ipI, e1, e3]
          exact q' _ (Kp.refl _ _)
      · have e1 : ¬ (1 : Int) ≤ (ds.length : Nat) := by omega
        rw [decide_eq_false h1] at q'
        simp only [tSeq, tIfS, tTest, tOp, tUn, tCB, tCons, tNil, tVar, tC, rI0, rI, rU, rEq, rNe, tRet, tRetN, tAsg, gName, gSub, tBM, tBM0, tNext, tB, tNot, tAnd, tOr, tIf, tCall, tDrop, tBreak, tCont, L2.start, tDGet, sDPut, tTup, tLst, tDNewK, tRevL, rCat, rAppend, rPop, rSetL, tAndV, tOrV, tNotV, tSl, tPart, tNoPart, tM1, gTup, gCons, gNil, cxK, cxnK, List.map_cons, List.map_nil, List.length_cons, List.length_nil, List.replicate, List.cons_append, List.nil_append, List.append_nil, List.set_cons_zero, List.set_cons_succ, List.getElem?_cons_zero, List.getElem?_cons_succ, Option.some.injEq, V.ref.injEq, V.int.injEq, V.str.injEq, V.bl.injEq, V.ty.injEq, exists_eq_left', exists_eq_left, exists_and_left, List.cons.injEq, and_true, true_and, sc_ii, sc_ss, sc_bb, sc_ni, sc_in, sc_is, sc_si, sc_nn, decide_true, decide_false, reduceCtorEq, Bool.false_eq_true, if_true, if_false, ite_true, ite_false, exists_const, eq_self, false_and, and_false, or_false, false_or, exists_false, Evl.rLenS, rSum, wipe, tYes, exists_eq, exists_eq', rIxL, rIxT, rIxS, exists_and_right, gt_iff_lt, not_true_eq_false, not_false_eq_true, Bool.not_true, Bool.not_false, decide_eq_true_eq, Nat.reduceSub, Nat.reduceAdd, List.append_assoc, tChain, tDIn, tDNotIn, sDDel, tAug, ipI, e1]
        exact q' _ (Kp.refl _ _)
    | _ =>
      simp only [tSeq, tIfS, tTest, tOp, tUn, tCB, tCons, tNil, tVar, tC, rI0, rI, rU, rEq, rNe, tRet, tRetN, tAsg, gName, gSub, tBM, tBM0, tNext, tB, tNot, tAnd, tOr, tIf, tCall, tDrop, tBreak, tCont, L2.start, tDGet, sDPut, tTup, tLst, tDNewK, tRevL, rCat, rAppend, rPop, rSetL, tAndV, tOrV, tNotV, tSl, tPart, tNoPart, tM1, gTup, gCons, gNil, cxK, cxnK, List.map_cons, List.map_nil, List.length_cons, List.length_nil, List.replicate, List.cons_append, List.nil_append, List.append_nil, List.set_cons_zero, List.set_cons_succ, List.getElem?_cons_zero, List.getElem?_cons_succ, Option.some.injEq, V.ref.injEq, V.int.injEq, V.str.injEq, V.bl.injEq, V.ty.injEq, exists_eq_left', exists_eq_left, exists_and_left, List.cons.injEq, and_true, true_and, sc_ii, sc_ss, sc_bb, sc_ni, sc_in, sc_is, sc_si, sc_nn, decide_true, decide_false, reduceCtorEq, Bool.false_eq_true, if_true, if_false, ite_true, ite_false, exists_const, eq_self, false_and, and_false, or_false, false_or, exists_false, Evl.rLenS, rSum, wipe, tYes, exists_eq, exists_eq', rIxL, rIxT, rIxS, exists_and_right, gt_iff_lt, not_true_eq_false, not_false_eq_true, Bool.not_true, Bool.not_false, decide_eq_true_eq, Nat.reduceSub, Nat.reduceAdd, List.append_assoc, tChain, tDIn, tDNotIn, sDDel, tAug, ipI, isTupD]
      exact q _ (Kp.refl _ _)
theorem guardD_three {ds : List PyData} (h : ds.length ≠ 3) : guardD (.tuple ds) = false := by
  unfold guardD
  split
  · rename_i e
    cases e
    exact absurd rfl h
  · rfl
theorem three {α : Type} {l : List α} (h : l.length = 3) : ∃ a b c, l = [a, b, c] := by
  match l, h with
  | [a, b, c], _ => exact ⟨a, b, c, rfl⟩
theorem sgOk_str {dl dm dw : PyData} (h : sgOk (.tuple [dl, dm, dw])) : ∃ z, dm = .str z := by
  unfold sgOk at h
  split at h
  · rename_i e
    cases e
    exact ⟨_, rfl⟩
  · exact h.elim
  · rename_i n1 n2
    exact absurd rfl (n2 _ _ _)
theorem ok_is_guard {f : Addr} {fd : FuncData} (D : Df K mg "is_guard" s_is_guard ["part"] f fd) (T : Bt K w mg T_FORMS T_SIGNS es n tL) {fb : Addr} {fdb : FuncData} (D_is_name : Df K mg "is_name" s_is_name ["value"] fb fdb) (G_is_name : FnOk P w K mg base CX0 1 fb fdb ["value"] (spD (fun _ => True) nameD))
    {fm : Addr} {fdm : FuncData} (D_is_worth : Df K mg "is_worth" s_is_worth ["part"] fm fdm) (G_is_worth : FnOk P w K mg base CX0 3 fm fdm ["part"] (spD (fun _ => True) worthD)) : FnOk P w K mg base CX0 4 f fd ["part"] (spD sgOk guardD) := by
  refine D.F.ok sc_is_guard (fun vs H Q E h => ?_) (fun cdv A outer s H vs Q E hr h => ?_)
  · obtain ⟨v, d, rfl, _⟩ := h
    rfl
  · obtain ⟨v, d, rfl, hd, sz, pre, q⟩ := h
    refine ⟨_, (pss_cons (ps_if (PW.pt (pw_or (pt_not (pt_val (pe_callB (id := "isinstance") (r := rIsi K) call_isi (by rfl) T.b_isinstance (by decide +kernel) (pa_cons (pv 0) (pa_cons (pe_bltn (v := .ty "tuple") (by rfl) T.b_tuple (by decide +kernel) rfl) pa_nil))))) (pw_or1 (pt_cmpR op_ne (pe_callB (id := "len") (r := Evl.rLenS K) call_len_seq (by rfl) T.b_len PySem.boot_len (pa_cons (pv 0) pa_nil)) pe_int (nomark _))))) (pss_one (ps_ret pe_bl)) pss_nil)
      (pss_cons (ps_asg (pv 0) (pg_tup (n := 3) (by rfl) (pgs_cons (pg_name (i := 1) sc_is_guard.nd rfl (Or.inl rfl)) (pgs_cons (pg_name (i := 2) sc_is_guard.nd rfl (Or.inl rfl)) (pgs_cons (pg_name (i := 3) sc_is_guard.nd rfl (Or.inl rfl)) pgs_nil)))))
      (pss_one (ps_ret (pe_and (pe_call G_is_name (hr.mono (by decide)) rfl D_is_name.g D_is_name.F.kp D_is_name.b .nil pass0 (pa_cons (pv 1) pa_nil)) (pe_and (pe_cmpR op_in_seq (pv 2) (pe_glob (v := .ref T_SIGNS) rfl T.c_SIGNS rfl) (by rfl)) (pe_one (pe_call G_is_worth (hr.mono (by decide)) rfl D_is_worth.g D_is_worth.F.kp D_is_worth.b .nil pass0 (pa_cons (pv 3) pa_nil))))))))), ?_⟩
    simp only [tSeq, tIfS, tTest, tOp, tUn, tCB, tCons, tNil, tVar, tC, rI0, rI, rU, rEq, rNe, tRet, tRetN, tAsg, gName, gSub, tBM, tBM0, tNext, tB, tNot, tAnd, tOr, tIf, tCall, tDrop, tBreak, tCont, L2.start, tDGet, sDPut, tTup, tLst, tDNewK, tRevL, rCat, rAppend, rPop, rSetL, tAndV, tOrV, tNotV, tSl, tPart, tNoPart, tM1, gTup, gCons, gNil, cxK, cxnK, List.map_cons, List.map_nil, List.length_cons, List.length_nil, List.replicate, List.cons_append, List.nil_append, List.append_nil, List.set_cons_zero, List.set_cons_succ, List.getElem?_cons_zero, List.getElem?_cons_succ, Option.some.injEq, V.ref.injEq, V.int.injEq, V.str.injEq, V.bl.injEq, V.ty.injEq, exists_eq_left', exists_eq_left, exists_and_left, List.cons.injEq, and_true, true_and, sc_ii, sc_ss, sc_bb, sc_ni, sc_in, sc_is, sc_si, sc_nn, decide_true, decide_false, reduceCtorEq, Bool.false_eq_true, if_true, if_false, ite_true, ite_false, exists_const, eq_self, false_and, and_false, or_false, false_or, exists_false, Evl.rLenS, rSum, wipe, tYes, exists_eq, exists_eq', rIxL, rIxT, rIxS, exists_and_right, gt_iff_lt, not_true_eq_false, not_false_eq_true, Bool.not_true, Bool.not_false, decide_eq_true_eq, Nat.reduceSub, Nat.reduceAdd, List.append_assoc, tChain, tDIn, tDNotIn, sDDel, tAug, ipI]
    refine isi_Dtup hd ?_
    have hd0 := hd
    cases hd with
    | @tup a xs ds e ha =>
      simp only [tSeq, tIfS, tTest, tOp, tUn, tCB, tCons, tNil, tVar, tC, rI0, rI, rU, rEq, rNe, tRet, tRetN, tAsg, gName, gSub, tBM, tBM0, tNext, tB, tNot, tAnd, tOr, tIf, tCall, tDrop, tBreak, tCont, L2.start, tDGet, sDPut, tTup, tLst, tDNewK, tRevL, rCat, rAppend, rPop, rSetL, tAndV, tOrV, tNotV, tSl, tPart, tNoPart, tM1, gTup, gCons, gNil, cxK, cxnK, List.map_cons, List.map_nil, List.length_cons, List.length_nil, List.replicate, List.cons_append, List.nil_append, List.append_nil, List.set_cons_zero, List.set_cons_succ, List.getElem?_cons_zero, List.getElem?_cons_succ, Option.some.injEq, V.ref.injEq, V.int.injEq, V.str.injEq, V.bl.injEq, V.ty.injEq, exists_eq_left', exists_eq_left, exists_and_left, List.cons.injEq, and_true, true_and, sc_ii, sc_ss, sc_bb, sc_ni, sc_in, sc_is, sc_si, sc_nn, decide_true, decide_false, reduceCtorEq, Bool.false_eq_true, if_true, if_false, ite_true, ite_false, exists_const, eq_self, false_and, and_false, or_false, false_or, exists_false, Evl.rLenS, rSum, wipe, tYes, exists_eq, exists_eq', rIxL, rIxT, rIxS, exists_and_right, gt_iff_lt, not_true_eq_false, not_false_eq_true, Bool.not_true, Bool.not_false, decide_eq_true_eq, Nat.reduceSub, Nat.reduceAdd, List.append_assoc, tChain, tDIn, tDNotIn, sDDel, tAug, ipI, isTupD]
      have hl := ha.len
      refine ⟨xs, .inr (sq_t e), ?_⟩
      rw [hl]
      by_cases h3 : ds.length = 3
      · obtain ⟨dl, dm, dw, rfl⟩ := three h3
        obtain ⟨z, rfl⟩ := sgOk_str pre
        cases ha with
        | cons h1 ht =>
        cases ht with
        | cons hm ht =>
        cases hm
        cases ht with
        | cons h2 ht =>
        cases ht
        rename_i vl vw
        simp only [tSeq, tIfS, tTest, tOp, tUn, tCB, tCons, tNil, tVar, tC, rI0, rI, rU, rEq, rNe, tRet, tRetN, tAsg, gName, gSub, tBM, tBM0, tNext, tB, tNot, tAnd, tOr, tIf, tCall, tDrop, tBreak, tCont, L2.start, tDGet, sDPut, tTup, tLst, tDNewK, tRevL, rCat, rAppend, rPop, rSetL, tAndV, tOrV, tNotV, tSl, tPart, tNoPart, tM1, gTup, gCons, gNil, cxK, cxnK, List.map_cons, List.map_nil, List.length_cons, List.length_nil, List.replicate, List.cons_append, List.nil_append, List.append_nil, List.set_cons_zero, List.set_cons_succ, List.getElem?_cons_zero, List.getElem?_cons_succ, Option.some.injEq, V.ref.injEq, V.int.injEq, V.str.injEq, V.bl.injEq, V.ty.injEq, exists_eq_left', exists_eq_left, exists_and_left, List.cons.injEq, and_true, true_and, sc_ii, sc_ss, sc_bb, sc_ni, sc_in, sc_is, sc_si, sc_nn, decide_true, decide_false, reduceCtorEq, Bool.false_eq_true, if_true, if_false, ite_true, ite_false, exists_const, eq_self, false_and, and_false, or_false, false_or, exists_false, Evl.rLenS, rSum, wipe, tYes, exists_eq, exists_eq', rIxL, rIxT, rIxS, exists_and_right, gt_iff_lt, not_true_eq_false, not_false_eq_true, Bool.not_true, Bool.not_false, decide_eq_true_eq, Nat.reduceSub, Nat.reduceAdd, List.append_assoc, tChain, tDIn, tDNotIn, sDDel, tAug, ipI]
        refine ⟨_, sq_t e, rfl, ?_⟩
        simp only [tSeq, tIfS, tTest, tOp, tUn, tCB, tCons, tNil, tVar, tC, rI0, rI, rU, rEq, rNe, tRet, tRetN, tAsg, gName, gSub, tBM, tBM0, tNext, tB, tNot, tAnd, tOr, tIf, tCall, tDrop, tBreak, tCont, L2.start, tDGet, sDPut, tTup, tLst, tDNewK, tRevL, rCat, rAppend, rPop, rSetL, tAndV, tOrV, tNotV, tSl, tPart, tNoPart, tM1, gTup, gCons, gNil, cxK, cxnK, List.map_cons, List.map_nil, List.length_cons, List.length_nil, List.replicate, List.cons_append, List.nil_append, List.append_nil, List.set_cons_zero, List.set_cons_succ, List.getElem?_cons_zero, List.getElem?_cons_succ, Option.some.injEq, V.ref.injEq, V.int.injEq, V.str.injEq, V.bl.injEq, V.ty.injEq, exists_eq_left', exists_eq_left, exists_and_left, List.cons.injEq, and_true, true_and, sc_ii, sc_ss, sc_bb, sc_ni, sc_in, sc_is, sc_si, sc_nn, decide_true, decide_false, reduceCtorEq, Bool.false_eq_true, if_true, if_false, ite_true, ite_false, exists_const, eq_self, false_and, and_false, or_false, false_or, exists_false, Evl.rLenS, rSum, wipe, tYes, exists_eq, exists_eq', rIxL, rIxT, rIxS, exists_and_right, gt_iff_lt, not_true_eq_false, not_false_eq_true, Bool.not_true, Bool.not_false, decide_eq_true_eq, Nat.reduceSub, Nat.reduceAdd, List.append_assoc, tChain, tDIn, tDNotIn, sDDel, tAug, ipI]
        refine ⟨_, _, ⟨rfl, rfl⟩, _, _, rfl, _, _, rfl, rfl, ?_⟩
        refine ⟨_, dl, rfl, h1, szAll_mem sz dl (by simp), True.intro, fun H1 k1 => ?_⟩
        simp only [tSeq, tIfS, tTest, tOp, tUn, tCB, tCons, tNil, tVar, tC, rI0, rI, rU, rEq, rNe, tRet, tRetN, tAsg, gName, gSub, tBM, tBM0, tNext, tB, tNot, tAnd, tOr, tIf, tCall, tDrop, tBreak, tCont, L2.start, tDGet, sDPut, tTup, tLst, tDNewK, tRevL, rCat, rAppend, rPop, rSetL, tAndV, tOrV, tNotV, tSl, tPart, tNoPart, tM1, gTup, gCons, gNil, cxK, cxnK, List.map_cons, List.map_nil, List.length_cons, List.length_nil, List.replicate, List.cons_append, List.nil_append, List.append_nil, List.set_cons_zero, List.set_cons_succ, List.getElem?_cons_zero, List.getElem?_cons_succ, Option.some.injEq, V.ref.injEq, V.int.injEq, V.str.injEq, V.bl.injEq, V.ty.injEq, exists_eq_left', exists_eq_left, exists_and_left, List.cons.injEq, and_true, true_and, sc_ii, sc_ss, sc_bb, sc_ni, sc_in, sc_is, sc_si, sc_nn, decide_true, decide_false, reduceCtorEq, Bool.false_eq_true, if_true, if_false, ite_true, ite_false, exists_const, eq_self, false_and, and_false, or_false, false_or, exists_false, Evl.rLenS, rSum, wipe, tYes, exists_eq, exists_eq', rIxL, rIxT, rIxS, exists_and_right, gt_iff_lt, not_true_eq_false, not_false_eq_true, Bool.not_true, Bool.not_false, decide_eq_true_eq, Nat.reduceSub, Nat.reduceAdd, List.append_assoc, tChain, tDIn, tDNotIn, sDDel, tAug, ipI]
        have q' : ∀ H', Kp [] H H' → Q (.bl (nameD dl && (signS z && worthD dw))) H' := q
        cases hn : nameD dl with
        | false =>
          rw [hn] at q'
          exact q' _ k1
        | true =>
          rw [hn] at q'
          simp only [tSeq, tIfS, tTest, tOp, tUn, tCB, tCons, tNil, tVar, tC, rI0, rI, rU, rEq, rNe, tRet, tRetN, tAsg, gName, gSub, tBM, tBM0, tNext, tB, tNot, tAnd, tOr, tIf, tCall, tDrop, tBreak, tCont, L2.start, tDGet, sDPut, tTup, tLst, tDNewK, tRevL, rCat, rAppend, rPop, rSetL, tAndV, tOrV, tNotV, tSl, tPart, tNoPart, tM1, gTup, gCons, gNil, cxK, cxnK, List.map_cons, List.map_nil, List.length_cons, List.length_nil, List.replicate, List.cons_append, List.nil_append, List.append_nil, List.set_cons_zero, List.set_cons_succ, List.getElem?_cons_zero, List.getElem?_cons_succ, Option.some.injEq, V.ref.injEq, V.int.injEq, V.str.injEq, V.bl.injEq, V.ty.injEq, exists_eq_left', exists_eq_left, exists_and_left, List.cons.injEq, and_true, true_and, sc_ii, sc_ss, sc_bb, sc_ni, sc_in, sc_is, sc_si, sc_nn, decide_true, decide_false, reduceCtorEq, Bool.false_eq_true, if_true, if_false, ite_true, ite_false, exists_const, eq_self, false_and, and_false, or_false, false_or, exists_false, Evl.rLenS, rSum, wipe, tYes, exists_eq, exists_eq', rIxL, rIxT, rIxS, exists_and_right, gt_iff_lt, not_true_eq_false, not_false_eq_true, Bool.not_true, Bool.not_false, decide_eq_true_eq, Nat.reduceSub, Nat.reduceAdd, List.append_assoc, tChain, tDIn, tDNotIn, sDDel, tAug, ipI]
          refine ⟨T_SIGNS, _, rfl, .inr (.inr T.sg), rfl, rfl, ?_⟩
          simp only [tSeq, tIfS, tTest, tOp, tUn, tCB, tCons, tNil, tVar, tC, rI0, rI, rU, rEq, rNe, tRet, tRetN, tAsg, gName, gSub, tBM, tBM0, tNext, tB, tNot, tAnd, tOr, tIf, tCall, tDrop, tBreak, tCont, L2.start, tDGet, sDPut, tTup, tLst, tDNewK, tRevL, rCat, rAppend, rPop, rSetL, tAndV, tOrV, tNotV, tSl, tPart, tNoPart, tM1, gTup, gCons, gNil, cxK, cxnK, List.map_cons, List.map_nil, List.length_cons, List.length_nil, List.replicate, List.cons_append, List.nil_append, List.append_nil, List.set_cons_zero, List.set_cons_succ, List.getElem?_cons_zero, List.getElem?_cons_succ, Option.some.injEq, V.ref.injEq, V.int.injEq, V.str.injEq, V.bl.injEq, V.ty.injEq, exists_eq_left', exists_eq_left, exists_and_left, List.cons.injEq, and_true, true_and, sc_ii, sc_ss, sc_bb, sc_ni, sc_in, sc_is, sc_si, sc_nn, decide_true, decide_false, reduceCtorEq, Bool.false_eq_true, if_true, if_false, ite_true, ite_false, exists_const, eq_self, false_and, and_false, or_false, false_or, exists_false, Evl.rLenS, rSum, wipe, tYes, exists_eq, exists_eq', rIxL, rIxT, rIxS, exists_and_right, gt_iff_lt, not_true_eq_false, not_false_eq_true, Bool.not_true, Bool.not_false, decide_eq_true_eq, Nat.reduceSub, Nat.reduceAdd, List.append_assoc, tChain, tDIn, tDNotIn, sDDel, tAug, ipI]
          show if signS z = true then _ else _
          cases hs : signS z with
          | false =>
            rw [hs] at q'
            exact q' _ k1
          | true =>
            rw [hs] at q'
            simp only [tSeq, tIfS, tTest, tOp, tUn, tCB, tCons, tNil, tVar, tC, rI0, rI, rU, rEq, rNe, tRet, tRetN, tAsg, gName, gSub, tBM, tBM0, tNext, tB, tNot, tAnd, tOr, tIf, tCall, tDrop, tBreak, tCont, L2.start, tDGet, sDPut, tTup, tLst, tDNewK, tRevL, rCat, rAppend, rPop, rSetL, tAndV, tOrV, tNotV, tSl, tPart, tNoPart, tM1, gTup, gCons, gNil, cxK, cxnK, List.map_cons, List.map_nil, List.length_cons, List.length_nil, List.replicate, List.cons_append, List.nil_append, List.append_nil, List.set_cons_zero, List.set_cons_succ, List.getElem?_cons_zero, List.getElem?_cons_succ, Option.some.injEq, V.ref.injEq, V.int.injEq, V.str.injEq, V.bl.injEq, V.ty.injEq, exists_eq_left', exists_eq_left, exists_and_left, List.cons.injEq, and_true, true_and, sc_ii, sc_ss, sc_bb, sc_ni, sc_in, sc_is, sc_si, sc_nn, decide_true, decide_false, reduceCtorEq, Bool.false_eq_true, if_true, if_false, ite_true, ite_false, exists_const, eq_self, false_and, and_false, or_false, false_or, exists_false, Evl.rLenS, rSum, wipe, tYes, exists_eq, exists_eq', rIxL, rIxT, rIxS, exists_and_right, gt_iff_lt, not_true_eq_false, not_false_eq_true, Bool.not_true, Bool.not_false, decide_eq_true_eq, Nat.reduceSub, Nat.reduceAdd, List.append_assoc, tChain, tDIn, tDNotIn, sDDel, tAug, ipI]
            exact ⟨_, dw, rfl, h2.kp k1, szAll_mem sz dw (by simp), True.intro, fun H2 k2 => q' _ (k1.trans k2)⟩
      · rw [guardD_three h3] at q
        have e3 : ((ds.length : Nat) : Int) ≠ 3 := by omega
        simp only [tSeq, tIfS, tTest, tOp, tUn, tCB, tCons, tNil, tVar, tC, rI0, rI, rU, rEq, rNe, tRet, tRetN, tAsg, gName, gSub, tBM, tBM0, tNext, tB, tNot, tAnd, tOr, tIf, tCall, tDrop, tBreak, tCont, L2.start, tDGet, sDPut, tTup, tLst, tDNewK, tRevL, rCat, rAppend, rPop, rSetL, tAndV, tOrV, tNotV, tSl, tPart, tNoPart, tM1, gTup, gCons, gNil, cxK, cxnK, List.map_cons, List.map_nil, List.length_cons, List.length_nil, List.replicate, List.cons_append, List.nil_append, List.append_nil, List.set_cons_zero, List.set_cons_succ, List.getElem?_cons_zero, List.getElem?_cons_succ, Option.some.injEq, V.ref.injEq, V.int.injEq, V.str.injEq, V.bl.injEq, V.ty.injEq, exists_eq_left', exists_eq_left, exists_and_left, List.cons.injEq, and_true, true_and, sc_ii, sc_ss, sc_bb, sc_ni, sc_in, sc_is, sc_si, sc_nn, decide_true, decide_false, reduceCtorEq, Bool.false_eq_true, if_true, if_false, ite_true, ite_false, exists_const, eq_self, false_and, and_false, or_false, false_or, exists_false, Evl.rLenS, rSum, wipe, tYes, exists_eq, exists_eq', rIxL, rIxT, rIxS, exists_and_right, gt_iff_lt, not_true_eq_false, not_false_eq_true, Bool.not_true, Bool.not_false, decide_eq_true_eq, Nat.reduceSub, Nat.reduceAdd, List.append_assoc, tChain, tDIn, tDNotIn, sDDel, tAug, ipI, e3]
        exact q _ (Kp.refl _ _)
    | _ =>
      simp only [tSeq, tIfS, tTest, tOp, tUn, tCB, tCons, tNil, tVar, tC, rI0, rI, rU, rEq, rNe, tRet, tRetN, tAsg, gName, gSub, tBM, tBM0, tNext, tB, tNot, tAnd, tOr, tIf, tCall, tDrop, tBreak, tCont, L2.start, tDGet, sDPut, tTup, tLst, tDNewK, tRevL, rCat, rAppend, rPop, rSetL, tAndV, tOrV, tNotV, tSl, tPart, tNoPart, tM1, gTup, gCons, gNil, cxK, cxnK, List.map_cons, List.map_nil, List.length_cons, List.length_nil, List.replicate, List.cons_append, List.nil_append, List.append_nil, List.set_cons_zero, List.set_cons_succ, List.getElem?_cons_zero, List.getElem?_cons_succ, Option.some.injEq, V.ref.injEq, V.int.injEq, V.str.injEq, V.bl.injEq, V.ty.injEq, exists_eq_left', exists_eq_left, exists_and_left, List.cons.injEq, and_true, true_and, sc_ii, sc_ss, sc_bb, sc_ni, sc_in, sc_is, sc_si, sc_nn, decide_true, decide_false, reduceCtorEq, Bool.false_eq_true, if_true, if_false, ite_true, ite_false, exists_const, eq_self, false_and, and_false, or_false, false_or, exists_false, Evl.rLenS, rSum, wipe, tYes, exists_eq, exists_eq', rIxL, rIxT, rIxS, exists_and_right, gt_iff_lt, not_true_eq_false, not_false_eq_true, Bool.not_true, Bool.not_false, decide_eq_true_eq, Nat.reduceSub, Nat.reduceAdd, List.append_assoc, tChain, tDIn, tDNotIn, sDDel, tAug, ipI, isTupD]
      exact q _ (Kp.refl _ _)

def spPart : Sp := fun vs H Q _ => ∃ (v : V) (d : PyData) (r : Str), vs = [v, .str r] ∧ Dq H v d ∧ szD d = true ∧ (r = "guard" → sgOk d) ∧ ∀ H', Kp [] H H' → Q (.bl (partD r d)) H'
theorem ok_is_part {f : Addr} {fd : FuncData} (D : Df K mg "is_part" s_is_part ["part", "role"] f fd) (T : Bt K w mg T_FORMS T_SIGNS es n tL) {fa : Addr} {fda : FuncData} (D_is_place : Df K mg "is_place" s_is_place ["part"] fa fda) (G_is_place : FnOk P w K mg base CX0 2 fa fda ["part"] (spD (fun _ => True) placeD))
    {fm : Addr} {fdm : FuncData} (D_is_worth : Df K mg "is_worth" s_is_worth ["part"] fm fdm) (G_is_worth : FnOk P w K mg base CX0 3 fm fdm ["part"] (spD (fun _ => True) worthD)) {fg : Addr} {fdg : FuncData} (D_is_guard : Df K mg "is_guard" s_is_guard ["part"] fg fdg) (G_is_guard : FnOk P w K mg base CX0 4 fg fdg ["part"] (spD sgOk guardD))
    {fb : Addr} {fdb : FuncData} (D_is_name : Df K mg "is_name" s_is_name ["value"] fb fdb) (G_is_name : FnOk P w K mg base CX0 1 fb fdb ["value"] (spD (fun _ => True) nameD)) : FnOk P w K mg base CX0 5 f fd ["part", "role"] spPart := by
  refine D.F.ok sc_is_part (fun vs H Q E h => ?_) (fun cdv A outer s H vs Q E hr h => ?_)
  · obtain ⟨v, d, r, rfl, _⟩ := h
    rfl
  · obtain ⟨v, d, r, rfl, hd, sz, pre, q⟩ := h
    refine ⟨_, (pss_cons (ps_if (pt_cmpR op_eq (pv 1) pe_str (nomark _)) (pss_one (ps_ret (pe_call G_is_place (hr.mono (by decide)) rfl D_is_place.g D_is_place.F.kp D_is_place.b .nil pass0 (pa_cons (pv 0) pa_nil)))) pss_nil)
      (pss_cons (ps_if (pt_cmpR op_eq (pv 1) pe_str (nomark _)) (pss_one (ps_ret (pe_call G_is_worth (hr.mono (by decide)) rfl D_is_worth.g D_is_worth.F.kp D_is_worth.b .nil pass0 (pa_cons (pv 0) pa_nil)))) pss_nil)
      (pss_cons (ps_if (pt_cmpR op_eq (pv 1) pe_str (nomark _)) (pss_one (ps_ret (pe_or (pe_cmpR op_isN (pv 0) pe_non (nomark _)) (pe_one (pe_call G_is_guard (hr.mono (by decide)) rfl D_is_guard.g D_is_guard.F.kp D_is_guard.b .nil pass0 (pa_cons (pv 0) pa_nil)))))) pss_nil)
      (pss_one (ps_ret (pe_call G_is_name (hr.mono (by decide)) rfl D_is_name.g D_is_name.F.kp D_is_name.b .nil pass0 (pa_cons (pv 0) pa_nil))))))), ?_⟩
    unfold partD at q
    simp only [tSeq, tIfS, tTest, tOp, tUn, tCB, tCons, tNil, tVar, tC, rI0, rI, rU, rEq, rNe, tRet, tRetN, tAsg, gName, gSub, tBM, tBM0, tNext, tB, tNot, tAnd, tOr, tIf, tCall, tDrop, tBreak, tCont, L2.start, tDGet, sDPut, tTup, tLst, tDNewK, tRevL, rCat, rAppend, rPop, rSetL, tAndV, tOrV, tNotV, tSl, tPart, tNoPart, tM1, gTup, gCons, gNil, cxK, cxnK, List.map_cons, List.map_nil, List.length_cons, List.length_nil, List.replicate, List.cons_append, List.nil_append, List.append_nil, List.set_cons_zero, List.set_cons_succ, List.getElem?_cons_zero, List.getElem?_cons_succ, Option.some.injEq, V.ref.injEq, V.int.injEq, V.str.injEq, V.bl.injEq, V.ty.injEq, exists_eq_left', exists_eq_left, exists_and_left, List.cons.injEq, and_true, true_and, sc_ii, sc_ss, sc_bb, sc_ni, sc_in, sc_is, sc_si, sc_nn, decide_true, decide_false, reduceCtorEq, Bool.false_eq_true, if_true, if_false, ite_true, ite_false, exists_const, eq_self, false_and, and_false, or_false, false_or, exists_false, Evl.rLenS, rSum, wipe, tYes, exists_eq, exists_eq', rIxL, rIxT, rIxS, exists_and_right, gt_iff_lt, not_true_eq_false, not_false_eq_true, Bool.not_true, Bool.not_false, decide_eq_true_eq, Nat.reduceSub, Nat.reduceAdd, List.append_assoc, tChain, tDIn, tDNotIn, sDDel, tAug, ipI]
    by_cases e1 : r = "place"
    · rw [if_pos e1] at q
      rw [if_pos e1]
      exact ⟨_, d, rfl, hd, sz, True.intro, q⟩
    rw [if_neg e1] at q
    rw [if_neg e1]
    by_cases e2 : r = "worth"
    · rw [if_pos e2] at q
      rw [if_pos e2]
      exact ⟨_, d, rfl, hd, sz, True.intro, q⟩
    rw [if_neg e2] at q
    rw [if_neg e2]
    by_cases e3 : r = "guard"
    · rw [if_pos e3] at q
      rw [if_pos e3]
      have pre' := pre e3
      have hd0 := hd
      cases hd with
      | non =>
        rw [if_pos rfl]
        exact q _ (Kp.refl _ _)
      | _ =>
        rw [if_neg (fun z => by cases z)]
        exact ⟨_, _, rfl, hd0, sz, pre', q⟩
    rw [if_neg e3] at q
    rw [if_neg e3]
    exact ⟨_, d, rfl, hd, sz, True.intro, q⟩

theorem walk_zipT {K : PySem.W.Frag} {a b : Addr} {xs ys : List V} {n : Nat} (hn : n = min xs.length ys.length) : Walk (RZ.ItzT K a b) n (fun H => SqT K H a xs ∧ SqT K H b ys) (YPair (fun i => xs[i]?) (fun i => ys[i]?)) where
  goes := fun i H hi h => ⟨xs, ys, _, _, h.1, h.2, List.getElem?_eq_getElem (show i < xs.length by omega), List.getElem?_eq_getElem (show i < ys.length by omega)⟩
  stops := fun H h => ⟨xs, ys, h.1, h.2, by omega⟩
  yields := fun i H x H' hi h y => by
    obtain ⟨T, u, v, e, hn, e', h1, h2⟩ := y
    exact ⟨T, u, v, e, hn, e', h1 xs h.1, h2 ys h.2⟩
theorem cut1 {v : V} {ps : List V} : cutV (v :: ps) (some 1) none = ps := by
  unfold cutV
  have e : HT.sIx (v :: ps).length 0 (some 1) = 1 := by
    have z := HT.sIx_nat (v :: ps).length 0 1
    rw [List.length_cons] at z ⊢
    exact z.trans (by omega)
  rw [e, HT.sIx_none, List.drop_succ_cons, List.drop_zero, List.length_cons]
  exact List.take_of_length_le (by omega)
theorem cut1_ne {v : V} {ps : List V} {A : Prop} : ¬ (HT.sIx (v :: ps).length 0 (some 1) = 0 ∧ A) := by
  have z := HT.sIx_nat (v :: ps).length 0 1
  rw [List.length_cons] at z ⊢
  rintro ⟨h, _⟩
  have z' : HT.sIx (ps.length + 1) 0 (some 1) = min 1 (ps.length + 1) := z
  omega
def spStep : Sp := fun vs H Q _ => ∃ (a : Addr) (x : Str) (ps : List V) (ds : List PyData) (rs : List Str), vs = [.ref a] ∧ H a = some (.tup (.str x :: ps)) ∧ DqAll H ps ds ∧ szAll ds = true ∧ (x, rs) ∈ forms ∧ (∀ d ∈ ds, sgOk d) ∧ ds.length ≤ 1000 ∧ ∀ H', Kp [] H H' → Q (.bl (stepD rs ds)) H'
theorem ok_is_step {f : Addr} {fd : FuncData} (D : Df K mg "is_step" s_is_step ["step"] f fd) (T : Bt K w mg T_FORMS T_SIGNS es n tL) {fb : Addr} {fdb : FuncData} (D_is_part : Df K mg "is_part" s_is_part ["part", "role"] fb fdb) (G_is_part : FnOk P w K mg base CX0 5 fb fdb ["part", "role"] spPart) : FnOk P w K mg base CX0 6 f fd ["step"] spStep := by
  refine D.F.ok sc_is_step (fun vs H Q E h => ?_) (fun cdv A outer s H vs Q E hr h => ?_)
  · obtain ⟨a, _, _, _, _, rfl, _⟩ := h
    rfl
  · obtain ⟨a, x, ps, ds, rs, rfl, e, hd, sz, hf, sg, hl, q⟩ := h
    have hu := hu_of hr
    obtain ⟨R, hR, wR⟩ := T.fm _ hf
    have len := hd.len
    refine ⟨_, (pss_cons (ps_if (PW.pt (pw_or (pt_not (pt_val (pe_callB (id := "isinstance") (r := rIsi K) call_isi (by rfl) T.b_isinstance (by decide +kernel) (pa_cons (pv 0) (pa_cons (pe_bltn (v := .ty "tuple") (by rfl) T.b_tuple (by decide +kernel) rfl) pa_nil))))) (pw_or (pt_not (pt_truth (pv 0) (by intro _; rfl))) (pw_or (pt_not (pt_val (pe_callB (id := "isinstance") (r := rIsi K) call_isi (by rfl) T.b_isinstance (by decide +kernel) (pa_cons (pe_ix (r := rIxT K) ix_tup (pv 0) pe_int (fun _ _ => rfl)) (pa_cons (pe_bltn (v := .ty "str") (by rfl) T.b_str (by decide +kernel) rfl) pa_nil))))) (pw_or1 (pt_cmpR (op_notIn_kd T.DF) (pe_ix (r := rIxT K) ix_tup (pv 0) pe_int (fun _ _ => rfl)) (pe_glob (v := .ref T_FORMS) rfl T.c_FORMS rfl) (by rfl))))))) (pss_one (ps_ret pe_bl)) pss_nil)
      (pss_cons (ps_set (i := 1) sc_is_step.nd rfl (Or.inl rfl) (pe_ix (r := rIxD K w) ix_kdict (pe_glob (v := .ref T_FORMS) rfl T.c_FORMS rfl) (pe_ix (r := rIxT K) ix_tup (pv 0) pe_int (fun _ _ => rfl)) (fun _ _ => rfl)))
      (pss_cons (ps_if (pt_cmpR op_ne (pe_callB (id := "len") (r := Evl.rLenS K) call_len_seq (by rfl) T.b_len PySem.boot_len (pa_cons (pv 0) pa_nil)) (pe_op op_add (pe_callB (id := "len") (r := Evl.rLenS K) call_len_seq (by rfl) T.b_len PySem.boot_len (pa_cons (pv 1) pa_nil)) pe_int) (nomark _)) (pss_one (ps_ret pe_bl)) pss_nil)
      (pss_one (ps_ret (pe_callB (id := "all") (r := rAll K) (cr_all rfl) (by rfl) T.b_all (by decide +kernel) (pa_cons (pe_lc (own := [("part", 2), ("role", 3)]) (g := (gTup K 2 (gCons (gName 2) (gCons (gName 3) gNil)))) (tt := tYes) rfl sc_is_step.nd (RZ.pi_zipA rfl T.b_zip (pa_cons (pe_slice sl_tup (pv 0) (po_some pe_int) po_none) (pa_cons (pv 1) pa_nil))) (blkOk_by (N := ["step", "roles", "part", "role"]) (sc := defScope s_is_step) (by decide +kernel)) (fun _ _ _ _ _ => (pg_tup (n := 2) (by rfl) (pgs_cons (pg_name (i := 2) sc_is_step.nd rfl (Or.inl rfl)) (pgs_cons (pg_name (i := 3) sc_is_step.nd rfl (Or.inl rfl)) pgs_nil)))) (fun _ _ _ _ _ => pts_nil) (fun _ _ _ _ _ => (pe_call G_is_part (hr.mono (by decide)) rfl D_is_part.g D_is_part.F.kp D_is_part.b .nil pass0 (pa_cons (pv 2) (pa_cons (pv 3) pa_nil))))) pa_nil))))))), ?_⟩
    simp only [tSeq, tIfS, tTest, tOp, tUn, tCB, tCons, tNil, tVar, tC, rI0, rI, rU, rEq, rNe, tRet, tRetN, tAsg, gName, gSub, tBM, tBM0, tNext, tB, tNot, tAnd, tOr, tIf, tCall, tDrop, tBreak, tCont, L2.start, tDGet, sDPut, tTup, tLst, tDNewK, tRevL, rCat, rAppend, rPop, rSetL, tAndV, tOrV, tNotV, tSl, tPart, tNoPart, tM1, gTup, gCons, gNil, cxK, cxnK, List.map_cons, List.map_nil, List.length_cons, List.length_nil, List.replicate, List.cons_append, List.nil_append, List.append_nil, List.set_cons_zero, List.set_cons_succ, List.getElem?_cons_zero, List.getElem?_cons_succ, Option.some.injEq, V.ref.injEq, V.int.injEq, V.str.injEq, V.bl.injEq, V.ty.injEq, exists_eq_left', exists_eq_left, exists_and_left, List.cons.injEq, and_true, true_and, sc_ii, sc_ss, sc_bb, sc_ni, sc_in, sc_is, sc_si, sc_nn, decide_true, decide_false, reduceCtorEq, Bool.false_eq_true, if_true, if_false, ite_true, ite_false, exists_const, eq_self, false_and, and_false, or_false, false_or, exists_false, Evl.rLenS, rSum, wipe, tYes, exists_eq, exists_eq', rIxL, rIxT, rIxS, exists_and_right, gt_iff_lt, not_true_eq_false, not_false_eq_true, Bool.not_true, Bool.not_false, decide_eq_true_eq, Nat.reduceSub, Nat.reduceAdd, List.append_assoc, tChain, tDIn, tDNotIn, sDDel, tAug, ipI]
    refine isi_D (.tup e (.cons (.str x) hd)) (b := true) (by simp only [tyD]; decide +kernel) ?_
    simp only [tSeq, tIfS, tTest, tOp, tUn, tCB, tCons, tNil, tVar, tC, rI0, rI, rU, rEq, rNe, tRet, tRetN, tAsg, gName, gSub, tBM, tBM0, tNext, tB, tNot, tAnd, tOr, tIf, tCall, tDrop, tBreak, tCont, L2.start, tDGet, sDPut, tTup, tLst, tDNewK, tRevL, rCat, rAppend, rPop, rSetL, tAndV, tOrV, tNotV, tSl, tPart, tNoPart, tM1, gTup, gCons, gNil, cxK, cxnK, List.map_cons, List.map_nil, List.length_cons, List.length_nil, List.replicate, List.cons_append, List.nil_append, List.append_nil, List.set_cons_zero, List.set_cons_succ, List.getElem?_cons_zero, List.getElem?_cons_succ, Option.some.injEq, V.ref.injEq, V.int.injEq, V.str.injEq, V.bl.injEq, V.ty.injEq, exists_eq_left', exists_eq_left, exists_and_left, List.cons.injEq, and_true, true_and, sc_ii, sc_ss, sc_bb, sc_ni, sc_in, sc_is, sc_si, sc_nn, decide_true, decide_false, reduceCtorEq, Bool.false_eq_true, if_true, if_false, ite_true, ite_false, exists_const, eq_self, false_and, and_false, or_false, false_or, exists_false, Evl.rLenS, rSum, wipe, tYes, exists_eq, exists_eq', rIxL, rIxT, rIxS, exists_and_right, gt_iff_lt, not_true_eq_false, not_false_eq_true, Bool.not_true, Bool.not_false, decide_eq_true_eq, Nat.reduceSub, Nat.reduceAdd, List.append_assoc, tChain, tDIn, tDNotIn, sDDel, tAug, ipI]
    refine ⟨true, .inr (.inl ⟨_, sq_t e, rfl⟩), ?_⟩
    simp only [tSeq, tIfS, tTest, tOp, tUn, tCB, tCons, tNil, tVar, tC, rI0, rI, rU, rEq, rNe, tRet, tRetN, tAsg, gName, gSub, tBM, tBM0, tNext, tB, tNot, tAnd, tOr, tIf, tCall, tDrop, tBreak, tCont, L2.start, tDGet, sDPut, tTup, tLst, tDNewK, tRevL, rCat, rAppend, rPop, rSetL, tAndV, tOrV, tNotV, tSl, tPart, tNoPart, tM1, gTup, gCons, gNil, cxK, cxnK, List.map_cons, List.map_nil, List.length_cons, List.length_nil, List.replicate, List.cons_append, List.nil_append, List.append_nil, List.set_cons_zero, List.set_cons_succ, List.getElem?_cons_zero, List.getElem?_cons_succ, Option.some.injEq, V.ref.injEq, V.int.injEq, V.str.injEq, V.bl.injEq, V.ty.injEq, exists_eq_left', exists_eq_left, exists_and_left, List.cons.injEq, and_true, true_and, sc_ii, sc_ss, sc_bb, sc_ni, sc_in, sc_is, sc_si, sc_nn, decide_true, decide_false, reduceCtorEq, Bool.false_eq_true, if_true, if_false, ite_true, ite_false, exists_const, eq_self, false_and, and_false, or_false, false_or, exists_false, Evl.rLenS, rSum, wipe, tYes, exists_eq, exists_eq', rIxL, rIxT, rIxS, exists_and_right, gt_iff_lt, not_true_eq_false, not_false_eq_true, Bool.not_true, Bool.not_false, decide_eq_true_eq, Nat.reduceSub, Nat.reduceAdd, List.append_assoc, tChain, tDIn, tDNotIn, sDDel, tAug, ipI]
    refine ⟨_, sq_t e, _, atI_of (by decide) rfl, ?_⟩
    refine isi_str_str ?_
    simp only [tSeq, tIfS, tTest, tOp, tUn, tCB, tCons, tNil, tVar, tC, rI0, rI, rU, rEq, rNe, tRet, tRetN, tAsg, gName, gSub, tBM, tBM0, tNext, tB, tNot, tAnd, tOr, tIf, tCall, tDrop, tBreak, tCont, L2.start, tDGet, sDPut, tTup, tLst, tDNewK, tRevL, rCat, rAppend, rPop, rSetL, tAndV, tOrV, tNotV, tSl, tPart, tNoPart, tM1, gTup, gCons, gNil, cxK, cxnK, List.map_cons, List.map_nil, List.length_cons, List.length_nil, List.replicate, List.cons_append, List.nil_append, List.append_nil, List.set_cons_zero, List.set_cons_succ, List.getElem?_cons_zero, List.getElem?_cons_succ, Option.some.injEq, V.ref.injEq, V.int.injEq, V.str.injEq, V.bl.injEq, V.ty.injEq, exists_eq_left', exists_eq_left, exists_and_left, List.cons.injEq, and_true, true_and, sc_ii, sc_ss, sc_bb, sc_ni, sc_in, sc_is, sc_si, sc_nn, decide_true, decide_false, reduceCtorEq, Bool.false_eq_true, if_true, if_false, ite_true, ite_false, exists_const, eq_self, false_and, and_false, or_false, false_or, exists_false, Evl.rLenS, rSum, wipe, tYes, exists_eq, exists_eq', rIxL, rIxT, rIxS, exists_and_right, gt_iff_lt, not_true_eq_false, not_false_eq_true, Bool.not_true, Bool.not_false, decide_eq_true_eq, Nat.reduceSub, Nat.reduceAdd, List.append_assoc, tChain, tDIn, tDNotIn, sDDel, tAug, ipI]
    refine ⟨_, sq_t e, _, atI_of (by decide) rfl, x, rfl, _, hR, ?_⟩
    simp only [tSeq, tIfS, tTest, tOp, tUn, tCB, tCons, tNil, tVar, tC, rI0, rI, rU, rEq, rNe, tRet, tRetN, tAsg, gName, gSub, tBM, tBM0, tNext, tB, tNot, tAnd, tOr, tIf, tCall, tDrop, tBreak, tCont, L2.start, tDGet, sDPut, tTup, tLst, tDNewK, tRevL, rCat, rAppend, rPop, rSetL, tAndV, tOrV, tNotV, tSl, tPart, tNoPart, tM1, gTup, gCons, gNil, cxK, cxnK, List.map_cons, List.map_nil, List.length_cons, List.length_nil, List.replicate, List.cons_append, List.nil_append, List.append_nil, List.set_cons_zero, List.set_cons_succ, List.getElem?_cons_zero, List.getElem?_cons_succ, Option.some.injEq, V.ref.injEq, V.int.injEq, V.str.injEq, V.bl.injEq, V.ty.injEq, exists_eq_left', exists_eq_left, exists_and_left, List.cons.injEq, and_true, true_and, sc_ii, sc_ss, sc_bb, sc_ni, sc_in, sc_is, sc_si, sc_nn, decide_true, decide_false, reduceCtorEq, Bool.false_eq_true, if_true, if_false, ite_true, ite_false, exists_const, eq_self, false_and, and_false, or_false, false_or, exists_false, Evl.rLenS, rSum, wipe, tYes, exists_eq, exists_eq', rIxL, rIxT, rIxS, exists_and_right, gt_iff_lt, not_true_eq_false, not_false_eq_true, Bool.not_true, Bool.not_false, decide_eq_true_eq, Nat.reduceSub, Nat.reduceAdd, List.append_assoc, tChain, tDIn, tDNotIn, sDDel, tAug, ipI, Option.isSome]
    refine ⟨_, sq_t e, _, atI_of (by decide) rfl, T_FORMS, x, .ref R, rfl, rfl, ⟨es, n, .ref R, T.DF.at_, T.DF.lit, hR, rfl⟩, ?_⟩
    simp only [tSeq, tIfS, tTest, tOp, tUn, tCB, tCons, tNil, tVar, tC, rI0, rI, rU, rEq, rNe, tRet, tRetN, tAsg, gName, gSub, tBM, tBM0, tNext, tB, tNot, tAnd, tOr, tIf, tCall, tDrop, tBreak, tCont, L2.start, tDGet, sDPut, tTup, tLst, tDNewK, tRevL, rCat, rAppend, rPop, rSetL, tAndV, tOrV, tNotV, tSl, tPart, tNoPart, tM1, gTup, gCons, gNil, cxK, cxnK, List.map_cons, List.map_nil, List.length_cons, List.length_nil, List.replicate, List.cons_append, List.nil_append, List.append_nil, List.set_cons_zero, List.set_cons_succ, List.getElem?_cons_zero, List.getElem?_cons_succ, Option.some.injEq, V.ref.injEq, V.int.injEq, V.str.injEq, V.bl.injEq, V.ty.injEq, exists_eq_left', exists_eq_left, exists_and_left, List.cons.injEq, and_true, true_and, sc_ii, sc_ss, sc_bb, sc_ni, sc_in, sc_is, sc_si, sc_nn, decide_true, decide_false, reduceCtorEq, Bool.false_eq_true, if_true, if_false, ite_true, ite_false, exists_const, eq_self, false_and, and_false, or_false, false_or, exists_false, Evl.rLenS, rSum, wipe, tYes, exists_eq, exists_eq', rIxL, rIxT, rIxS, exists_and_right, gt_iff_lt, not_true_eq_false, not_false_eq_true, Bool.not_true, Bool.not_false, decide_eq_true_eq, Nat.reduceSub, Nat.reduceAdd, List.append_assoc, tChain, tDIn, tDNotIn, sDDel, tAug, ipI]
    refine ⟨_, .inr (sq_t e), _, .inr (.inr wR), ?_⟩
    rw [List.length_map, List.length_cons, len]
    unfold stepD at q
    by_cases hlen : ds.length = rs.length
    · have e1 : ((ds.length + 1 : Nat) : Int) = ((rs.length : Nat) : Int) + 1 := by omega
      rw [beq_iff_eq.mpr hlen] at q
      simp only [tSeq, tIfS, tTest, tOp, tUn, tCB, tCons, tNil, tVar, tC, rI0, rI, rU, rEq, rNe, tRet, tRetN, tAsg, gName, gSub, tBM, tBM0, tNext, tB, tNot, tAnd, tOr, tIf, tCall, tDrop, tBreak, tCont, L2.start, tDGet, sDPut, tTup, tLst, tDNewK, tRevL, rCat, rAppend, rPop, rSetL, tAndV, tOrV, tNotV, tSl, tPart, tNoPart, tM1, gTup, gCons, gNil, cxK, cxnK, List.map_cons, List.map_nil, List.length_cons, List.length_nil, List.replicate, List.cons_append, List.nil_append, List.append_nil, List.set_cons_zero, List.set_cons_succ, List.getElem?_cons_zero, List.getElem?_cons_succ, Option.some.injEq, V.ref.injEq, V.int.injEq, V.str.injEq, V.bl.injEq, V.ty.injEq, exists_eq_left', exists_eq_left, exists_and_left, List.cons.injEq, and_true, true_and, sc_ii, sc_ss, sc_bb, sc_ni, sc_in, sc_is, sc_si, sc_nn, decide_true, decide_false, reduceCtorEq, Bool.false_eq_true, if_true, if_false, ite_true, ite_false, exists_const, eq_self, false_and, and_false, or_false, false_or, exists_false, Evl.rLenS, rSum, wipe, tYes, exists_eq, exists_eq', rIxL, rIxT, rIxS, exists_and_right, gt_iff_lt, not_true_eq_false, not_false_eq_true, Bool.not_true, Bool.not_false, decide_eq_true_eq, Nat.reduceSub, Nat.reduceAdd, List.append_assoc, tChain, tDIn, tDNotIn, sDDel, tAug, ipI, e1]
      refine ⟨.ref a, rfl, ?_⟩
      simp only [tSeq, tIfS, tTest, tOp, tUn, tCB, tCons, tNil, tVar, tC, rI0, rI, rU, rEq, rNe, tRet, tRetN, tAsg, gSub, tBM, tBM0, tNext, tB, tNot, tAnd, tOr, tIf, tDrop, tBreak, tCont, L2.start, tDGet, sDPut, tTup, tLst, tDNewK, tRevL, rCat, rAppend, rPop, rSetL, tAndV, tOrV, tNotV, tSl, tPart, tNoPart, tM1, cxK, cxnK, List.map_cons, List.map_nil, List.length_cons, List.length_nil, List.replicate, List.cons_append, List.nil_append, List.append_nil, List.set_cons_zero, List.set_cons_succ, List.getElem?_cons_zero, List.getElem?_cons_succ, Option.some.injEq, V.ref.injEq, V.int.injEq, V.str.injEq, V.bl.injEq, V.ty.injEq, exists_eq_left', exists_eq_left, exists_and_left, List.cons.injEq, and_true, true_and, sc_ii, sc_ss, sc_bb, sc_ni, sc_in, sc_is, sc_si, sc_nn, decide_true, decide_false, reduceCtorEq, Bool.false_eq_true, if_true, if_false, ite_true, ite_false, exists_const, eq_self, false_and, and_false, or_false, false_or, exists_false, Evl.rLenS, rSum, exists_eq, exists_eq', rIxL, rIxT, rIxS, exists_and_right, gt_iff_lt, not_true_eq_false, not_false_eq_true, Bool.not_true, Bool.not_false, decide_eq_true_eq, Nat.reduceSub, Nat.reduceAdd, List.append_assoc, tChain, tDIn, tDNotIn, sDDel, tAug, ipI, rSlT]
      refine ⟨_, sq_t e, cut1_ne, fun p np => ?_⟩
      rw [cut1]
      refine ⟨p, R, ⟨rfl, rfl⟩, ps, rs.map V.str, .inr ⟨sq_t upd_same, .inr wR, fun D nD => ?_⟩⟩
      have k0 : Kp [] H (upd H p (.tup ps)) := Kp.new np
      have hp0 : (upd H p (.tup ps)) p = some (.tup ps) := upd_same
      have hlen' : ds.length = rs.length := hlen
      have zl : (ds.zip rs).length = ds.length := by rw [List.length_zip, hlen', Nat.min_self]
      refine lc_it (walk_zipT (n := ds.length) (by rw [len, List.length_map, ← hlen', Nat.min_self])) (AllIn (fun z => partD z.2 z.1) (ds.zip rs) D (upd H p (.tup ps))) ⟨upd_same, Kp.new nD⟩ (fun i H1 _ h => ⟨sq_t (h.2 _ _ not0 hp0), .inr wR⟩) ?_ ?_
      · rintro i x H1 H2 hi h ⟨t, u, v, rfl, nt, rfl, e1, e2⟩
        obtain ⟨d, ed, hdd⟩ := hd.get e1
        obtain ⟨r, er, rfl⟩ : ∃ r, rs[i]? = some r ∧ v = V.str r := by
          have e2 : (rs.map V.str)[i]? = some v := e2
          rw [List.getElem?_map] at e2
          cases er : rs[i]? with
          | none => rw [er] at e2; cases e2
          | some r => rw [er] at e2; exact ⟨r, rfl, (Option.some.inj e2).symm⟩
        simp only [tSeq, tIfS, tTest, tOp, tUn, tCB, tCons, tNil, tVar, tC, rI0, rI, rU, rEq, rNe, tRet, tRetN, tAsg, gName, gSub, tBM, tBM0, tNext, tB, tNot, tAnd, tOr, tIf, tCall, tDrop, tBreak, tCont, L2.start, tDGet, sDPut, tTup, tLst, tDNewK, tRevL, rCat, rAppend, rPop, rSetL, tAndV, tOrV, tNotV, tSl, tPart, tNoPart, tM1, gTup, gCons, gNil, cxK, cxnK, List.map_cons, List.map_nil, List.length_cons, List.length_nil, List.replicate, List.cons_append, List.nil_append, List.append_nil, List.set_cons_zero, List.set_cons_succ, List.getElem?_cons_zero, List.getElem?_cons_succ, Option.some.injEq, V.ref.injEq, V.int.injEq, V.str.injEq, V.bl.injEq, V.ty.injEq, exists_eq_left', exists_eq_left, exists_and_left, List.cons.injEq, and_true, true_and, sc_ii, sc_ss, sc_bb, sc_ni, sc_in, sc_is, sc_si, sc_nn, decide_true, decide_false, reduceCtorEq, Bool.false_eq_true, if_true, if_false, ite_true, ite_false, exists_const, eq_self, false_and, and_false, or_false, false_or, exists_false, Evl.rLenS, rSum, wipe, tYes, exists_eq, exists_eq', rIxL, rIxT, rIxS, exists_and_right, gt_iff_lt, not_true_eq_false, not_false_eq_true, Bool.not_true, Bool.not_false, decide_eq_true_eq, Nat.reduceSub, Nat.reduceAdd, List.append_assoc, tChain, tDIn, tDNotIn, sDDel, tAug, ipI]
        refine ⟨_, sq_t upd_same, rfl, _, _, rfl, _, _, rfl, rfl, ?_⟩
        have k1 : Kp [] H1 (upd H1 t (.tup [u, .str r])) := Kp.new nt
        refine ⟨u, d, r, rfl, hdd.kp ((k0.trans h.2).trans k1), szAll_mem sz d (List.mem_of_getElem? ed), fun _ => sg d (List.mem_of_getElem? ed), fun H3 k3 => ?_⟩
        exact allIn_step (g := fun z : PyData × Str => partD z.2 z.1) (d := (d, r)) nD h (k1.trans k3) (by rw [List.getElem?_zip_eq_some]; exact ⟨ed, er⟩) (by omega)
      · intro H1 h
        rw [← zl] at h
        exact allIn_end h (q _ (k0.trans h.2))
    · have e1 : ¬ ((ds.length + 1 : Nat) : Int) = ((rs.length : Nat) : Int) + 1 := by omega
      rw [beq_eq_false_iff_ne.mpr hlen] at q
      simp only [tSeq, tIfS, tTest, tOp, tUn, tCB, tCons, tNil, tVar, tC, rI0, rI, rU, rEq, rNe, tRet, tRetN, tAsg, gName, gSub, tBM, tBM0, tNext, tB, tNot, tAnd, tOr, tIf, tCall, tDrop, tBreak, tCont, L2.start, tDGet, sDPut, tTup, tLst, tDNewK, tRevL, rCat, rAppend, rPop, rSetL, tAndV, tOrV, tNotV, tSl, tPart, tNoPart, tM1, gTup, gCons, gNil, cxK, cxnK, List.map_cons, List.map_nil, List.length_cons, List.length_nil, List.replicate, List.cons_append, List.nil_append, List.append_nil, List.set_cons_zero, List.set_cons_succ, List.getElem?_cons_zero, List.getElem?_cons_succ, Option.some.injEq, V.ref.injEq, V.int.injEq, V.str.injEq, V.bl.injEq, V.ty.injEq, exists_eq_left', exists_eq_left, exists_and_left, List.cons.injEq, and_true, true_and, sc_ii, sc_ss, sc_bb, sc_ni, sc_in, sc_is, sc_si, sc_nn, decide_true, decide_false, reduceCtorEq, Bool.false_eq_true, if_true, if_false, ite_true, ite_false, exists_const, eq_self, false_and, and_false, or_false, false_or, exists_false, Evl.rLenS, rSum, wipe, tYes, exists_eq, exists_eq', rIxL, rIxT, rIxS, exists_and_right, gt_iff_lt, not_true_eq_false, not_false_eq_true, Bool.not_true, Bool.not_false, decide_eq_true_eq, Nat.reduceSub, Nat.reduceAdd, List.append_assoc, tChain, tDIn, tDNotIn, sDDel, tAug, ipI, e1]
      exact q _ (Kp.refl _ _)
end
end My

set_option Elab.async false
set_option linter.all false
set_option maxRecDepth 100000
set_option maxHeartbeats 4000000
namespace My
open PySem L2
abbrev s_lock_fault : Stmt := top 18
theorem sc_lock_fault : FnScope ["steps", "held", "at", "step", "word"] ["steps"] (defScope s_lock_fault) := ⟨rfl, rfl, rfl, by decide +kernel, rfl, by decide +kernel, by decide +kernel⟩
abbrev s_sections_of : Stmt := top 19
theorem sc_sections_of : FnScope ["steps", "found", "held", "first", "at", "step"] ["steps"] (defScope s_sections_of) := ⟨rfl, rfl, rfl, by decide +kernel, rfl, by decide +kernel, by decide +kernel⟩
/-! ### lock and free steps, apart from the rest -/
/-- a step: a lock step (true) or free step (false) of a name, or another -/
abbrev Lk := Option (Bool × Str)
def cnt (n : Str) : List Lk → Int
  | [] => 0
  | l :: r => (if l = some (true, n) then 1 else if l = some (false, n) then -1 else 0) + cnt n r
def one (l : Lk) : Int := match l with
  | some (true, _) => 1
  | some (false, _) => -1
  | none => 0
def dep : List Lk → Int
  | [] => 0
  | l :: r => one l + dep r
theorem cnt_app (n : Str) : ∀ a b : List Lk, cnt n (a ++ b) = cnt n a + cnt n b
  | [], b => by show cnt n b = 0 + cnt n b; omega
  | l :: a, b => by
    show _ + cnt n (a ++ b) = _ + cnt n a + cnt n b
    rw [cnt_app n a b]; omega
theorem dep_app : ∀ a b : List Lk, dep (a ++ b) = dep a + dep b
  | [], b => by show dep b = 0 + dep b; omega
  | l :: a, b => by
    show _ + dep (a ++ b) = _ + dep a + dep b
    rw [dep_app a b]; omega
def cn (n : Str) (ls : List Lk) (i : Nat) : Int := cnt n (ls.take i)
def dp (ls : List Lk) (i : Nat) : Int := dep (ls.take i)
theorem cn_zero {n : Str} {ls : List Lk} : cn n ls 0 = 0 := rfl
theorem dp_zero {ls : List Lk} : dp ls 0 = 0 := rfl
theorem cn_next {n : Str} {ls : List Lk} {i : Nat} {l : Lk} (h : ls[i]? = some l) : cn n ls (i + 1) = cn n ls i + (if l = some (true, n) then 1 else if l = some (false, n) then -1 else 0) := by
  unfold cn
  rw [take_snoc h, cnt_app]
  show _ + (_ + 0) = _
  omega
theorem dp_next {ls : List Lk} {i : Nat} {l : Lk} (h : ls[i]? = some l) : dp ls (i + 1) = dp ls i + one l := by
  unfold dp
  rw [take_snoc h, dep_app]
  show _ + (_ + 0) = _
  omega
def fine (ls : List Lk) (i : Nat) : Prop := ∀ b n, ls[i]? = some (some (b, n)) → cn n ls i = if b then 0 else 1
/-- what the first fault is: r the number told, or none -/
inductive IsF (ls : List Lk) : Option Nat → Prop
  | bad (k : Nat) : k < ls.length → (∀ i, i < k → fine ls i) → ¬ fine ls k → IsF ls (some k)
  | held : (∀ i, i < ls.length → fine ls i) → (∃ n, cn n ls ls.length ≠ 0) → IsF ls (some ls.length)
  | good : (∀ i, i < ls.length → fine ls i) → (∀ n, cn n ls ls.length = 0) → IsF ls none
theorem IsF.uniq {ls : List Lk} {r q : Option Nat} (h : IsF ls r) (g : IsF ls q) : r = q := by
  cases h with
  | bad k hk h1 h2 =>
    cases g with
    | bad j hj g1 g2 =>
      rcases Nat.lt_trichotomy k j with z | z | z
      · exact absurd (g1 k z) h2
      · rw [z]
      · exact absurd (h1 j z) g2
    | held g1 _ => exact absurd (g1 k hk) h2
    | good g1 _ => exact absurd (g1 k hk) h2
  | held h1 h2 =>
    cases g with
    | bad j hj g1 g2 => exact absurd (h1 j hj) g2
    | held _ _ => rfl
    | good g1 g2 => obtain ⟨n, z⟩ := h2; exact absurd (g2 n) z
  | good h1 h2 =>
    cases g with
    | bad j hj g1 g2 => exact absurd (h1 j hj) g2
    | held _ g2 => obtain ⟨n, z⟩ := g2; exact absurd (h2 n) z
    | good _ _ => rfl
/-- the names that are held behind i steps -/
structure Held (ls : List Lk) (i : Nat) (hs : List Str) : Prop where
  nd : hs.Nodup
  c : ∀ n, cn n ls i = if n ∈ hs then 1 else 0
  d : dp ls i = hs.length
  sz : hs.length ≤ i
theorem Held.zero {ls : List Lk} : Held ls 0 [] := ⟨List.nodup_nil, fun n => rfl, rfl, Nat.le_refl _⟩
theorem Held.oth {ls : List Lk} {i : Nat} {hs : List Str} (h : Held ls i hs) (e : ls[i]? = some none) : Held ls (i + 1) hs :=
  ⟨h.nd, fun n => by rw [cn_next e, h.c n]; simp, by rw [dp_next e, h.d]; simp [one], Nat.le_succ_of_le h.sz⟩
theorem Held.lock {ls : List Lk} {i : Nat} {hs : List Str} {n : Str} (h : Held ls i hs) (e : ls[i]? = some (some (true, n))) (hn : n ∉ hs) : Held ls (i + 1) (hs ++ [n]) := by
  refine ⟨?_, fun m => ?_, ?_, by rw [List.length_append, List.length_singleton]; have := h.sz; omega⟩
  · rw [List.nodup_append]
    exact ⟨h.nd, by simp, fun a ha b hb => by rw [List.mem_singleton.mp hb]; rintro rfl; exact hn ha⟩
  · rw [cn_next e, h.c m]
    by_cases z : n = m
    · subst z; simp [hn]
    · have z' : m ≠ n := fun q => z q.symm
      simp [z, z']
  · rw [dp_next e, h.d, List.length_append]; simp [one]
theorem Held.free {ls : List Lk} {i : Nat} {hs : List Str} {n : Str} (h : Held ls i hs) (e : ls[i]? = some (some (false, n))) (hn : n ∈ hs) : Held ls (i + 1) (hs.filter fun m => decide (m ≠ n)) := by
  refine ⟨h.nd.filter _, fun m => ?_, ?_, Nat.le_trans (List.length_filter_le _ _) (Nat.le_succ_of_le h.sz)⟩
  · rw [cn_next e, h.c m]
    by_cases z : n = m
    · subst z; simp [hn]
    · have z' : m ≠ n := fun q => z q.symm
      simp [z, z']
  · rw [dp_next e, h.d]
    have key : ∀ hs : List Str, hs.Nodup → n ∈ hs → (hs.filter fun m => decide (m ≠ n)).length + 1 = hs.length := by
      intro hs
      induction hs with
      | nil => intro _ h; nomatch h
      | cons a r ih =>
        intro nd hm
        rw [List.nodup_cons] at nd
        by_cases ea : a = n
        · subst ea
          have er : (r.filter fun m => decide (m ≠ a)) = r := List.filter_eq_self.mpr fun x hx => by simp; rintro rfl; exact nd.1 hx
          rw [List.filter_cons]; simp only [ne_eq, not_true_eq_false, decide_false, Bool.false_eq_true, if_false, List.length_cons]
          simpa using congrArg List.length er
        · rcases List.mem_cons.mp hm with z | z
          · exact absurd z.symm ea
          · have := ih nd.2 z
            rw [List.filter_cons, if_pos (by simpa using ea), List.length_cons, List.length_cons]; omega
    have := key hs h.nd hn
    simp only [one]
    omega
/-- a step in the heap -/
structure StepV (H : Hp) (v : V) (l : Lk) : Prop where
  ex : ∃ (a : Addr) (x : Str) (ps : List V) (ds : List PyData) (rs : List Str), v = .ref a ∧ H a = some (.tup (.str x :: ps)) ∧ DqAll H ps ds ∧ (szAll ds = true ∧ noLAll ds = true ∧ SeqAt.shaped (.tuple (.str x :: ds)) = true) ∧ (x, rs) ∈ forms ∧ (∀ d ∈ ds, sgOk d) ∧ ds.length ≤ 1000 ∧ stepD rs ds = true ∧
    ((l = none ∧ x ≠ "lock" ∧ x ≠ "free") ∨ ∃ b n, l = some (b, n) ∧ x = (if b then "lock" else "free") ∧ ps = [.str n] ∧ ds = [.str n])
theorem StepV.kp {H H' : Hp} {v : V} {l : Lk} (h : StepV H v l) (k : Kp [] H H') : StepV H' v l := by
  obtain ⟨a, x, ps, ds, rs, h1, h2, h3, r⟩ := h.ex
  exact ⟨a, x, ps, ds, rs, h1, k _ _ not0 h2, h3.kp k, r⟩
theorem StepV.kpS {H H' : Hp} {S : List Addr} {v : V} {l : Lk} (h : StepV H v l) (k : Kp S H H') (hS : ∀ a ∈ S, ∃ xs, H a = some (.lst xs)) : StepV H' v l := by
  obtain ⟨a, x, ps, ds, rs, h1, h2, h3, h4, r⟩ := h.ex
  exact ⟨a, x, ps, ds, rs, h1, k _ _ (fun m => by
    obtain ⟨xs, q⟩ := hS _ m
    rw [h2] at q; cases q) h2, h3.kpS k hS h4.2.1, h4, r⟩
def Steps (H : Hp) (xs : List V) (ls : List Lk) : Prop := xs.length = ls.length ∧ ∀ (i : Nat) (x : V), xs[i]? = some x → ∃ l, ls[i]? = some l ∧ StepV H x l
theorem Steps.kp {H H' : Hp} {xs : List V} {ls : List Lk} (h : Steps H xs ls) (k : Kp [] H H') : Steps H' xs ls := ⟨h.1, fun i x e => by
  obtain ⟨l, e1, s⟩ := h.2 i x e
  exact ⟨l, e1, s.kp k⟩⟩
/-- the first word of a step, and its name -/
theorem StepV.at0 {K : PySem.W.Frag} {H : Hp} {v : V} {l : Lk} (h : StepV H v l) : ∃ (a : Addr) (x : Str) (ps : List V), v = .ref a ∧ H a = some (.tup (.str x :: ps)) ∧ ((l = none ∧ x ≠ "lock" ∧ x ≠ "free") ∨ (∃ n, l = some (true, n) ∧ x = "lock" ∧ ps = [.str n]) ∨ (∃ n, l = some (false, n) ∧ x = "free" ∧ ps = [.str n])) := by
  obtain ⟨a, x, ps, ds, rs, h1, h2, h3, _, _, _, _, _, h4⟩ := h.ex
  refine ⟨a, x, ps, h1, h2, ?_⟩
  rcases h4 with h4 | ⟨b, n, h5, h6, h7, _⟩
  · exact .inl h4
  · cases b with
    | true => exact .inr (.inl ⟨n, h5, h6, h7⟩)
    | false => exact .inr (.inr ⟨n, h5, h6, h7⟩)
/-! ### lock_fault -/
def hdK (hs : List Str) : List (Key × V) := hs.map fun n => (Sum.inr n, V.bl true)
theorem hdK_val (n : Str) : ∀ hs : List Str, valV (hdK hs) (Sum.inr n) = if n ∈ hs then some (.bl true) else none
  | [] => rfl
  | m :: r => by
    have ih := hdK_val n r
    by_cases e : (Sum.inr m : Key) = Sum.inr n
    · have e' : m = n := by cases e; rfl
      rw [show hdK (m :: r) = (Sum.inr m, V.bl true) :: hdK r from rfl, valV_pos e, if_pos (by rw [e']; exact List.mem_cons_self)]
    · have e' : n ≠ m := fun z => e (by rw [z])
      rw [show hdK (m :: r) = (Sum.inr m, V.bl true) :: hdK r from rfl, valV_neg e, ih]
      simp [e']
theorem hdK_put {n : Str} {hs : List Str} (h : n ∉ hs) : putK (hdK hs) (Sum.inr n) (.bl true) = hdK (hs ++ [n]) := by
  unfold putK
  rw [if_neg]
  · unfold hdK; rw [List.map_append]; rfl
  · intro z
    obtain ⟨p, hp, e⟩ := List.any_eq_true.mp z
    obtain ⟨m, hm, rfl⟩ := List.mem_map.mp hp
    have e' : (Sum.inr m : Key) = Sum.inr n := of_decide_eq_true e
    cases e'
    exact h hm
theorem hdK_drop {n : Str} {hs : List Str} : dropK (hdK hs) (Sum.inr n) = hdK (hs.filter fun m => decide (m ≠ n)) := by
  unfold dropK hdK
  rw [List.filter_map]
  congr 1
  refine List.filter_congr fun m _ => ?_
  simp
def optV : Option Nat → V
  | none => .non
  | some k => .int (k : Nat)
theorem free_lock : Str.ofString "free" ≠ Str.ofString "lock" := by decide +kernel
structure Bt2 (mg : Str → Option Value) : Prop where
  b_enumerate : mg "enumerate" = none
  b_len : mg "len" = none
  b_list : mg "list" = none
def spFault (K : PySem.W.Frag) : Sp := fun vs H Q _ => ∃ (a : Addr) (xs : List V) (ls : List Lk), vs = [.ref a] ∧ SqL K H a xs ∧ Steps H xs ls ∧ xs.length ≤ 1000 ∧ ∀ r H', IsF ls r → Kp [] H H' → Q (optV r) H'
def FltInv (a o : Addr) (ls : List Lk) (H : Hp) (i : Nat) (σ : L2.St) (H' : Hp) : Prop := ∃ (hs : List Str) (c1 c2 c3 : Option V), σ = [some (.ref a), some (.ref o), c1, c2, c3] ∧ H' o = some (.dK (hdK hs)) ∧ Held ls i hs ∧ (∀ j, j < i → fine ls j) ∧ Kp [] H H'
theorem fine_next {ls : List Lk} {i : Nat} (h : ∀ j, j < i → fine ls j) (g : fine ls i) : ∀ j, j < i + 1 → fine ls j := fun j hj => by
  by_cases e : j = i
  · rw [e]; exact g
  · exact h j (by omega)
section
variable {P : Program} {w : World} {K : PySem.W.Frag} {mg : Str → Option Value} {base : Heap}
theorem ok_lock_fault {f : Addr} {fd : FuncData} (D : Df K mg "lock_fault" s_lock_fault ["steps"] f fd) (T : Bt2 mg) : FnOk P w K mg base CX0 1 f fd ["steps"] (spFault K) := by
  refine D.F.ok sc_lock_fault (fun vs H Q E h => ?_) (fun cdv A outer s H vs Q E hr h => ?_)
  · obtain ⟨a, _, _, rfl, _⟩ := h
    rfl
  · obtain ⟨a, xs, ls, rfl, hS, hst, hl, q⟩ := h
    have hu := hu_of hr
    refine ⟨_, (pss_cons (ps_set (i := 1) sc_lock_fault.nd rfl (Or.inl rfl) pe_dnewK)
      (pss_cons (ps_for PassesOwn.never rfl (pi_enum rfl T.b_enumerate (pa_cons (pv 0) pa_nil)) (pg_tup (n := 2) (by rfl) (pgs_cons (pg_name (i := 2) sc_lock_fault.nd rfl (Or.inl rfl)) (pgs_cons (pg_name (i := 3) sc_lock_fault.nd rfl (Or.inl rfl)) pgs_nil))) (pss_cons (ps_set (i := 4) sc_lock_fault.nd rfl (Or.inl rfl) (pe_ix (r := rIxT K) ix_tup (pv 3) pe_int (fun _ _ => rfl)))
      (pss_one (ps_if (pt_cmpR op_in_seq (pv 4) (pe_tup (pa_cons pe_str (pa_cons pe_str pa_nil))) (by rfl)) (pss_cons (ps_if (pt_cmpR op_eq (pe_cmpR op_eq (pv 4) pe_str (nomark _)) (pe_cmp (pc_din hu (pe_ix (r := rIxT K) ix_tup (pv 3) pe_int (fun _ _ => rfl)) (pv 1)) rfl) (nomark _)) (pss_one (ps_ret (pv 2))) pss_nil)
      (pss_one (ps_if (pt_cmpR op_eq (pv 4) pe_str (nomark _)) (pss_one (ps_dput hu (pv 1) (pe_ix (r := rIxT K) ix_tup (pv 3) pe_int (fun _ _ => rfl)) pe_bl rfl)) (pss_one (ps_ddel (pv 1) (pe_ix (r := rIxT K) ix_tup (pv 3) pe_int (fun _ _ => rfl))))))) pss_nil))))
      (pss_one (ps_ret (pe_ifExp (pt_truth (pv 1) (by intro _; rfl)) (pe_callB (id := "len") (r := Evl.rLenS K) call_len_seq (by rfl) T.b_len PySem.boot_len (pa_cons (pv 0) pa_nil)) pe_non))))), ?_⟩
    simp only [tSeq, tIfS, tTest, tOp, tUn, tCB, tCons, tNil, tVar, tC, rI0, rI, rU, rEq, rNe, tRet, tRetN, tAsg, gName, gSub, tBM, tBM0, tNext, tB, tNot, tAnd, tOr, tIf, tCall, tDrop, tBreak, tCont, L2.start, tDGet, sDPut, tTup, tLst, tDNewK, tRevL, rCat, rAppend, rPop, rSetL, tAndV, tOrV, tNotV, tSl, tPart, tNoPart, tM1, gTup, gCons, gNil, cxK, cxnK, List.map_cons, List.map_nil, List.length_cons, List.length_nil, List.replicate, List.cons_append, List.nil_append, List.append_nil, List.set_cons_zero, List.set_cons_succ, List.getElem?_cons_zero, List.getElem?_cons_succ, Option.some.injEq, V.ref.injEq, V.int.injEq, V.str.injEq, V.bl.injEq, V.ty.injEq, exists_eq_left', exists_eq_left, exists_and_left, List.cons.injEq, and_true, true_and, sc_ii, sc_ss, sc_bb, sc_ni, sc_in, sc_is, sc_si, sc_nn, decide_true, decide_false, reduceCtorEq, Bool.false_eq_true, if_true, if_false, ite_true, ite_false, exists_const, eq_self, false_and, and_false, or_false, false_or, exists_false, Evl.rLenS, rSum, wipe, tYes, exists_eq, exists_eq', rIxL, rIxT, rIxS, exists_and_right, gt_iff_lt, not_true_eq_false, not_false_eq_true, Bool.not_true, Bool.not_false, decide_eq_true_eq, Nat.reduceSub, Nat.reduceAdd, List.append_assoc, tChain, tDIn, tDNotIn, sDDel, tAug, ipI]
    intro o no
    refine ⟨.ref a, rfl, a, xs, rfl, (Kp.new no).ls not0 hS, ?_⟩
    refine for_it (walk_enum (K := K) (a := a) (xs := xs)) (FltInv a o ls H) ⟨[], _, _, _, rfl, upd_same, .zero, (fun j hj => absurd hj (by omega)), Kp.new no⟩ ?_ ?_ ?_
    · rintro i σ H1 _ ⟨hs, c1, c2, c3, rfl, ho, hh, hf, kp⟩
      exact kp.ls not0 hS
    · rintro i x σ H1 H2 hi ⟨hs, c1, c2, c3, rfl, ho, hh, hf, kp⟩ ⟨t, u, v, rfl, nt, rfl, e1, e2⟩
      cases e1
      obtain ⟨l, el, sv⟩ := hst.2 i v e2
      have k1 : Kp [] H1 (upd H1 t (.tup [.int (i : Nat), v])) := Kp.new nt
      have k01 := kp.trans k1
      have ho1 := k1 _ _ not0 ho
      obtain ⟨b, x, ps, rfl, eb, cs⟩ := (sv.kp k01).at0 (K := K)
      simp only [tSeq, tIfS, tTest, tOp, tUn, tCB, tCons, tNil, tVar, tC, rI0, rI, rU, rEq, rNe, tRet, tRetN, tAsg, gName, gSub, tBM, tBM0, tNext, tB, tNot, tAnd, tOr, tIf, tCall, tDrop, tBreak, tCont, L2.start, tDGet, sDPut, tTup, tLst, tDNewK, tRevL, rCat, rAppend, rPop, rSetL, tAndV, tOrV, tNotV, tSl, tPart, tNoPart, tM1, gTup, gCons, gNil, cxK, cxnK, List.map_cons, List.map_nil, List.length_cons, List.length_nil, List.replicate, List.cons_append, List.nil_append, List.append_nil, List.set_cons_zero, List.set_cons_succ, List.getElem?_cons_zero, List.getElem?_cons_succ, Option.some.injEq, V.ref.injEq, V.int.injEq, V.str.injEq, V.bl.injEq, V.ty.injEq, exists_eq_left', exists_eq_left, exists_and_left, List.cons.injEq, and_true, true_and, sc_ii, sc_ss, sc_bb, sc_ni, sc_in, sc_is, sc_si, sc_nn, decide_true, decide_false, reduceCtorEq, Bool.false_eq_true, if_true, if_false, ite_true, ite_false, exists_const, eq_self, false_and, and_false, or_false, false_or, exists_false, Evl.rLenS, rSum, wipe, tYes, exists_eq, exists_eq', rIxL, rIxT, rIxS, exists_and_right, gt_iff_lt, not_true_eq_false, not_false_eq_true, Bool.not_true, Bool.not_false, decide_eq_true_eq, Nat.reduceSub, Nat.reduceAdd, List.append_assoc, tChain, tDIn, tDNotIn, sDDel, tAug, ipI]
      refine ⟨_, sq_t upd_same, rfl, _, _, rfl, _, _, rfl, rfl, b, rfl, ?_⟩
      refine ⟨_, sq_t eb, _, atI_of (by decide) rfl, small (by decide), fun p np => ?_⟩
      have k2 : Kp [] (upd H1 t (.tup [.int (i : Nat), .ref b])) (upd (upd H1 t (.tup [.int (i : Nat), .ref b])) p (.tup [.str "lock", .str "free"])) := Kp.new np
      have k02 := k01.trans k2
      have ho2 := k2 _ _ not0 ho1
      have eb2 := k2 _ _ not0 eb
      refine ⟨p, _, rfl, .inr (sq_t upd_same), rfl, rfl, ?_⟩
      simp only [tSeq, tIfS, tTest, tOp, tUn, tCB, tCons, tNil, tVar, tC, rI0, rI, rU, rEq, rNe, tRet, tRetN, tAsg, gName, gSub, tBM, tBM0, tNext, tB, tNot, tAnd, tOr, tIf, tCall, tDrop, tBreak, tCont, L2.start, tDGet, sDPut, tTup, tLst, tDNewK, tRevL, rCat, rAppend, rPop, rSetL, tAndV, tOrV, tNotV, tSl, tPart, tNoPart, tM1, gTup, gCons, gNil, cxK, cxnK, List.map_cons, List.map_nil, List.length_cons, List.length_nil, List.replicate, List.cons_append, List.nil_append, List.append_nil, List.set_cons_zero, List.set_cons_succ, List.getElem?_cons_zero, List.getElem?_cons_succ, Option.some.injEq, V.ref.injEq, V.int.injEq, V.str.injEq, V.bl.injEq, V.ty.injEq, exists_eq_left', exists_eq_left, exists_and_left, List.cons.injEq, and_true, true_and, sc_ii, sc_ss, sc_bb, sc_ni, sc_in, sc_is, sc_si, sc_nn, decide_true, decide_false, reduceCtorEq, Bool.false_eq_true, if_true, if_false, ite_true, ite_false, exists_const, eq_self, false_and, and_false, or_false, false_or, exists_false, Evl.rLenS, rSum, wipe, tYes, exists_eq, exists_eq', rIxL, rIxT, rIxS, exists_and_right, gt_iff_lt, not_true_eq_false, not_false_eq_true, Bool.not_true, Bool.not_false, decide_eq_true_eq, Nat.reduceSub, Nat.reduceAdd, List.append_assoc, tChain, tDIn, tDNotIn, sDDel, tAug, ipI]
      have inL : inV (.str x) [.str "lock", .str "free"] = (("lock" == x) || (("free" == x) || false)) := rfl
      rw [inL]
      rcases cs with ⟨rfl, x1, x2⟩ | ⟨n, rfl, rfl, rfl⟩ | ⟨n, rfl, rfl, rfl⟩
      · rw [beq_eq_false_iff_ne.mpr (Ne.symm x1), beq_eq_false_iff_ne.mpr (Ne.symm x2)]
        simp only [tSeq, tIfS, tTest, tOp, tUn, tCB, tCons, tNil, tVar, tC, rI0, rI, rU, rEq, rNe, tRet, tRetN, tAsg, gName, gSub, tBM, tBM0, tNext, tB, tNot, tAnd, tOr, tIf, tCall, tDrop, tBreak, tCont, L2.start, tDGet, sDPut, tTup, tLst, tDNewK, tRevL, rCat, rAppend, rPop, rSetL, tAndV, tOrV, tNotV, tSl, tPart, tNoPart, tM1, gTup, gCons, gNil, cxK, cxnK, List.map_cons, List.map_nil, List.length_cons, List.length_nil, List.replicate, List.cons_append, List.nil_append, List.append_nil, List.set_cons_zero, List.set_cons_succ, List.getElem?_cons_zero, List.getElem?_cons_succ, Option.some.injEq, V.ref.injEq, V.int.injEq, V.str.injEq, V.bl.injEq, V.ty.injEq, exists_eq_left', exists_eq_left, exists_and_left, List.cons.injEq, and_true, true_and, sc_ii, sc_ss, sc_bb, sc_ni, sc_in, sc_is, sc_si, sc_nn, decide_true, decide_false, reduceCtorEq, Bool.false_eq_true, if_true, if_false, ite_true, ite_false, exists_const, eq_self, false_and, and_false, or_false, false_or, exists_false, Evl.rLenS, rSum, wipe, tYes, exists_eq, exists_eq', rIxL, rIxT, rIxS, exists_and_right, gt_iff_lt, not_true_eq_false, not_false_eq_true, Bool.not_true, Bool.not_false, decide_eq_true_eq, Nat.reduceSub, Nat.reduceAdd, List.append_assoc, tChain, tDIn, tDNotIn, sDDel, tAug, ipI, Bool.or_false]
        exact ⟨hs, _, _, _, rfl, ho2, hh.oth el, fine_next hf (fun b n z => by rw [el] at z; cases z), k02⟩
      · simp only [tSeq, tIfS, tTest, tOp, tUn, tCB, tCons, tNil, tVar, tC, rI0, rI, rU, rEq, rNe, tRet, tRetN, tAsg, gName, gSub, tBM, tBM0, tNext, tB, tNot, tAnd, tOr, tIf, tCall, tDrop, tBreak, tCont, L2.start, tDGet, sDPut, tTup, tLst, tDNewK, tRevL, rCat, rAppend, rPop, rSetL, tAndV, tOrV, tNotV, tSl, tPart, tNoPart, tM1, gTup, gCons, gNil, cxK, cxnK, List.map_cons, List.map_nil, List.length_cons, List.length_nil, List.replicate, List.cons_append, List.nil_append, List.append_nil, List.set_cons_zero, List.set_cons_succ, List.getElem?_cons_zero, List.getElem?_cons_succ, Option.some.injEq, V.ref.injEq, V.int.injEq, V.str.injEq, V.bl.injEq, V.ty.injEq, exists_eq_left', exists_eq_left, exists_and_left, List.cons.injEq, and_true, true_and, sc_ii, sc_ss, sc_bb, sc_ni, sc_in, sc_is, sc_si, sc_nn, decide_true, decide_false, reduceCtorEq, Bool.false_eq_true, if_true, if_false, ite_true, ite_false, exists_const, eq_self, false_and, and_false, or_false, false_or, exists_false, Evl.rLenS, rSum, wipe, tYes, exists_eq, exists_eq', rIxL, rIxT, rIxS, exists_and_right, gt_iff_lt, not_true_eq_false, not_false_eq_true, Bool.not_true, Bool.not_false, decide_eq_true_eq, Nat.reduceSub, Nat.reduceAdd, List.append_assoc, tChain, tDIn, tDNotIn, sDDel, tAug, ipI, beq_self_eq_true, Bool.true_or]
        refine ⟨_, sq_t eb2, _, atI_of (by decide) rfl, _, DGet.k (k := Sum.inr n) ho2, ?_⟩
        rw [hdK_val]
        by_cases hn : n ∈ hs
        · rw [if_pos hn]
          simp only [tSeq, tIfS, tTest, tOp, tUn, tCB, tCons, tNil, tVar, tC, rI0, rI, rU, rEq, rNe, tRet, tRetN, tAsg, gName, gSub, tBM, tBM0, tNext, tB, tNot, tAnd, tOr, tIf, tCall, tDrop, tBreak, tCont, L2.start, tDGet, sDPut, tTup, tLst, tDNewK, tRevL, rCat, rAppend, rPop, rSetL, tAndV, tOrV, tNotV, tSl, tPart, tNoPart, tM1, gTup, gCons, gNil, cxK, cxnK, List.map_cons, List.map_nil, List.length_cons, List.length_nil, List.replicate, List.cons_append, List.nil_append, List.append_nil, List.set_cons_zero, List.set_cons_succ, List.getElem?_cons_zero, List.getElem?_cons_succ, Option.some.injEq, V.ref.injEq, V.int.injEq, V.str.injEq, V.bl.injEq, V.ty.injEq, exists_eq_left', exists_eq_left, exists_and_left, List.cons.injEq, and_true, true_and, sc_ii, sc_ss, sc_bb, sc_ni, sc_in, sc_is, sc_si, sc_nn, decide_true, decide_false, reduceCtorEq, Bool.false_eq_true, if_true, if_false, ite_true, ite_false, exists_const, eq_self, false_and, and_false, or_false, false_or, exists_false, Evl.rLenS, rSum, wipe, tYes, exists_eq, exists_eq', rIxL, rIxT, rIxS, exists_and_right, gt_iff_lt, not_true_eq_false, not_false_eq_true, Bool.not_true, Bool.not_false, decide_eq_true_eq, Nat.reduceSub, Nat.reduceAdd, List.append_assoc, tChain, tDIn, tDNotIn, sDDel, tAug, ipI, Option.isSome]
          refine q (some i) _ (.bad i (by rw [← hst.1]; exact hi) hf fun g => ?_) k02
          have z := g _ _ el
          rw [hh.c, if_pos hn] at z
          cases z
        · rw [if_neg hn]
          simp only [tSeq, tIfS, tTest, tOp, tUn, tCB, tCons, tNil, tVar, tC, rI0, rI, rU, rEq, rNe, tRet, tRetN, tAsg, gName, gSub, tBM, tBM0, tNext, tB, tNot, tAnd, tOr, tIf, tCall, tDrop, tBreak, tCont, L2.start, tDGet, sDPut, tTup, tLst, tDNewK, tRevL, rCat, rAppend, rPop, rSetL, tAndV, tOrV, tNotV, tSl, tPart, tNoPart, tM1, gTup, gCons, gNil, cxK, cxnK, List.map_cons, List.map_nil, List.length_cons, List.length_nil, List.replicate, List.cons_append, List.nil_append, List.append_nil, List.set_cons_zero, List.set_cons_succ, List.getElem?_cons_zero, List.getElem?_cons_succ, Option.some.injEq, V.ref.injEq, V.int.injEq, V.str.injEq, V.bl.injEq, V.ty.injEq, exists_eq_left', exists_eq_left, exists_and_left, List.cons.injEq, and_true, true_and, sc_ii, sc_ss, sc_bb, sc_ni, sc_in, sc_is, sc_si, sc_nn, decide_true, decide_false, reduceCtorEq, Bool.false_eq_true, if_true, if_false, ite_true, ite_false, exists_const, eq_self, false_and, and_false, or_false, false_or, exists_false, Evl.rLenS, rSum, wipe, tYes, exists_eq, exists_eq', rIxL, rIxT, rIxS, exists_and_right, gt_iff_lt, not_true_eq_false, not_false_eq_true, Bool.not_true, Bool.not_false, decide_eq_true_eq, Nat.reduceSub, Nat.reduceAdd, List.append_assoc, tChain, tDIn, tDNotIn, sDDel, tAug, ipI, Option.isSome]
          refine ⟨_, sq_t eb2, _, atI_of (by decide) rfl, _, DPut.k (k := Sum.inr n) ho2 ?_, hs ++ [n], _, _, _, rfl, ?_, hh.lock el hn, fine_next hf ?_, k02.wr no⟩
          · unfold hdK; rw [List.length_map]; exact smallL (by have := hh.sz; omega)
          · rw [upd_same, hdK_put hn]
          · intro b' n' z
            rw [el] at z; cases z
            rw [hh.c, if_neg hn]; rfl
      · simp only [tSeq, tIfS, tTest, tOp, tUn, tCB, tCons, tNil, tVar, tC, rI0, rI, rU, rEq, rNe, tRet, tRetN, tAsg, gName, gSub, tBM, tBM0, tNext, tB, tNot, tAnd, tOr, tIf, tCall, tDrop, tBreak, tCont, L2.start, tDGet, sDPut, tTup, tLst, tDNewK, tRevL, rCat, rAppend, rPop, rSetL, tAndV, tOrV, tNotV, tSl, tPart, tNoPart, tM1, gTup, gCons, gNil, cxK, cxnK, List.map_cons, List.map_nil, List.length_cons, List.length_nil, List.replicate, List.cons_append, List.nil_append, List.append_nil, List.set_cons_zero, List.set_cons_succ, List.getElem?_cons_zero, List.getElem?_cons_succ, Option.some.injEq, V.ref.injEq, V.int.injEq, V.str.injEq, V.bl.injEq, V.ty.injEq, exists_eq_left', exists_eq_left, exists_and_left, List.cons.injEq, and_true, true_and, sc_ii, sc_ss, sc_bb, sc_ni, sc_in, sc_is, sc_si, sc_nn, decide_true, decide_false, reduceCtorEq, Bool.false_eq_true, if_true, if_false, ite_true, ite_false, exists_const, eq_self, false_and, and_false, or_false, false_or, exists_false, Evl.rLenS, rSum, wipe, tYes, exists_eq, exists_eq', rIxL, rIxT, rIxS, exists_and_right, gt_iff_lt, not_true_eq_false, not_false_eq_true, Bool.not_true, Bool.not_false, decide_eq_true_eq, Nat.reduceSub, Nat.reduceAdd, List.append_assoc, tChain, tDIn, tDNotIn, sDDel, tAug, ipI, beq_self_eq_true, Bool.true_or, Bool.or_true]
        refine ⟨_, sq_t eb2, _, atI_of (by decide) rfl, _, DGet.k (k := Sum.inr n) ho2, ?_⟩
        rw [hdK_val]
        have fl : (Str.ofString "free" = Str.ofString "lock") = False := eq_false free_lock
        by_cases hn : n ∈ hs
        · rw [if_pos hn]
          simp only [tSeq, tIfS, tTest, tOp, tUn, tCB, tCons, tNil, tVar, tC, rI0, rI, rU, rEq, rNe, tRet, tRetN, tAsg, gName, gSub, tBM, tBM0, tNext, tB, tNot, tAnd, tOr, tIf, tCall, tDrop, tBreak, tCont, L2.start, tDGet, sDPut, tTup, tLst, tDNewK, tRevL, rCat, rAppend, rPop, rSetL, tAndV, tOrV, tNotV, tSl, tPart, tNoPart, tM1, gTup, gCons, gNil, cxK, cxnK, List.map_cons, List.map_nil, List.length_cons, List.length_nil, List.replicate, List.cons_append, List.nil_append, List.append_nil, List.set_cons_zero, List.set_cons_succ, List.getElem?_cons_zero, List.getElem?_cons_succ, Option.some.injEq, V.ref.injEq, V.int.injEq, V.str.injEq, V.bl.injEq, V.ty.injEq, exists_eq_left', exists_eq_left, exists_and_left, List.cons.injEq, and_true, true_and, sc_ii, sc_ss, sc_bb, sc_ni, sc_in, sc_is, sc_si, sc_nn, decide_true, decide_false, reduceCtorEq, Bool.false_eq_true, if_true, if_false, ite_true, ite_false, exists_const, eq_self, false_and, and_false, or_false, false_or, exists_false, Evl.rLenS, rSum, wipe, tYes, exists_eq, exists_eq', rIxL, rIxT, rIxS, exists_and_right, gt_iff_lt, not_true_eq_false, not_false_eq_true, Bool.not_true, Bool.not_false, decide_eq_true_eq, Nat.reduceSub, Nat.reduceAdd, List.append_assoc, tChain, tDIn, tDNotIn, sDDel, tAug, ipI, fl, Option.isSome]
          refine ⟨_, sq_t eb2, _, atI_of (by decide) rfl, _, ho2, Sum.inr n, rfl, by rw [hdK_val, if_pos hn], hs.filter (fun m => decide (m ≠ n)), _, _, _, rfl, ?_, hh.free el hn, fine_next hf ?_, k02.wr no⟩
          · rw [upd_same, hdK_drop]
          · intro b' n' z
            rw [el] at z; cases z
            rw [hh.c, if_pos hn]; rfl
        · rw [if_neg hn]
          simp only [tSeq, tIfS, tTest, tOp, tUn, tCB, tCons, tNil, tVar, tC, rI0, rI, rU, rEq, rNe, tRet, tRetN, tAsg, gName, gSub, tBM, tBM0, tNext, tB, tNot, tAnd, tOr, tIf, tCall, tDrop, tBreak, tCont, L2.start, tDGet, sDPut, tTup, tLst, tDNewK, tRevL, rCat, rAppend, rPop, rSetL, tAndV, tOrV, tNotV, tSl, tPart, tNoPart, tM1, gTup, gCons, gNil, cxK, cxnK, List.map_cons, List.map_nil, List.length_cons, List.length_nil, List.replicate, List.cons_append, List.nil_append, List.append_nil, List.set_cons_zero, List.set_cons_succ, List.getElem?_cons_zero, List.getElem?_cons_succ, Option.some.injEq, V.ref.injEq, V.int.injEq, V.str.injEq, V.bl.injEq, V.ty.injEq, exists_eq_left', exists_eq_left, exists_and_left, List.cons.injEq, and_true, true_and, sc_ii, sc_ss, sc_bb, sc_ni, sc_in, sc_is, sc_si, sc_nn, decide_true, decide_false, reduceCtorEq, Bool.false_eq_true, if_true, if_false, ite_true, ite_false, exists_const, eq_self, false_and, and_false, or_false, false_or, exists_false, Evl.rLenS, rSum, wipe, tYes, exists_eq, exists_eq', rIxL, rIxT, rIxS, exists_and_right, gt_iff_lt, not_true_eq_false, not_false_eq_true, Bool.not_true, Bool.not_false, decide_eq_true_eq, Nat.reduceSub, Nat.reduceAdd, List.append_assoc, tChain, tDIn, tDNotIn, sDDel, tAug, ipI, fl, Option.isSome]
          refine q (some i) _ (.bad i (by rw [← hst.1]; exact hi) hf fun g => ?_) k02
          have z := g _ _ el
          rw [hh.c, if_neg hn] at z
          cases z
    · rintro σ H1 ⟨hs, c1, c2, c3, rfl, ho, hh, hf, kp⟩
      simp only [tSeq, tIfS, tTest, tOp, tUn, tCB, tCons, tNil, tVar, tC, rI0, rI, rU, rEq, rNe, tRet, tRetN, tAsg, gName, gSub, tBM, tBM0, tNext, tB, tNot, tAnd, tOr, tIf, tCall, tDrop, tBreak, tCont, L2.start, tDGet, sDPut, tTup, tLst, tDNewK, tRevL, rCat, rAppend, rPop, rSetL, tAndV, tOrV, tNotV, tSl, tPart, tNoPart, tM1, gTup, gCons, gNil, cxK, cxnK, List.map_cons, List.map_nil, List.length_cons, List.length_nil, List.replicate, List.cons_append, List.nil_append, List.append_nil, List.set_cons_zero, List.set_cons_succ, List.getElem?_cons_zero, List.getElem?_cons_succ, Option.some.injEq, V.ref.injEq, V.int.injEq, V.str.injEq, V.bl.injEq, V.ty.injEq, exists_eq_left', exists_eq_left, exists_and_left, List.cons.injEq, and_true, true_and, sc_ii, sc_ss, sc_bb, sc_ni, sc_in, sc_is, sc_si, sc_nn, decide_true, decide_false, reduceCtorEq, Bool.false_eq_true, if_true, if_false, ite_true, ite_false, exists_const, eq_self, false_and, and_false, or_false, false_or, exists_false, Evl.rLenS, rSum, wipe, tYes, exists_eq, exists_eq', rIxL, rIxT, rIxS, exists_and_right, gt_iff_lt, not_true_eq_false, not_false_eq_true, Bool.not_true, Bool.not_false, decide_eq_true_eq, Nat.reduceSub, Nat.reduceAdd, List.append_assoc, tChain, tDIn, tDNotIn, sDDel, tAug, ipI]
      rw [hst.1] at hh hf
      refine ⟨!hs.isEmpty, .inr (.inr ⟨_, ho, by cases hs <;> rfl⟩), ?_⟩
      cases hs with
      | nil =>
        simp only [tSeq, tIfS, tTest, tOp, tUn, tCB, tCons, tNil, tVar, tC, rI0, rI, rU, rEq, rNe, tRet, tRetN, tAsg, gName, gSub, tBM, tBM0, tNext, tB, tNot, tAnd, tOr, tIf, tCall, tDrop, tBreak, tCont, L2.start, tDGet, sDPut, tTup, tLst, tDNewK, tRevL, rCat, rAppend, rPop, rSetL, tAndV, tOrV, tNotV, tSl, tPart, tNoPart, tM1, gTup, gCons, gNil, cxK, cxnK, List.map_cons, List.map_nil, List.length_cons, List.length_nil, List.replicate, List.cons_append, List.nil_append, List.append_nil, List.set_cons_zero, List.set_cons_succ, List.getElem?_cons_zero, List.getElem?_cons_succ, Option.some.injEq, V.ref.injEq, V.int.injEq, V.str.injEq, V.bl.injEq, V.ty.injEq, exists_eq_left', exists_eq_left, exists_and_left, List.cons.injEq, and_true, true_and, sc_ii, sc_ss, sc_bb, sc_ni, sc_in, sc_is, sc_si, sc_nn, decide_true, decide_false, reduceCtorEq, Bool.false_eq_true, if_true, if_false, ite_true, ite_false, exists_const, eq_self, false_and, and_false, or_false, false_or, exists_false, Evl.rLenS, rSum, wipe, tYes, exists_eq, exists_eq', rIxL, rIxT, rIxS, exists_and_right, gt_iff_lt, not_true_eq_false, not_false_eq_true, Bool.not_true, Bool.not_false, decide_eq_true_eq, Nat.reduceSub, Nat.reduceAdd, List.append_assoc, tChain, tDIn, tDNotIn, sDDel, tAug, ipI, List.isEmpty]
        exact q none H1 (.good hf fun n => by rw [hh.c]; rfl) kp
      | cons n r =>
        simp only [tSeq, tIfS, tTest, tOp, tUn, tCB, tCons, tNil, tVar, tC, rI0, rI, rU, rEq, rNe, tRet, tRetN, tAsg, gName, gSub, tBM, tBM0, tNext, tB, tNot, tAnd, tOr, tIf, tCall, tDrop, tBreak, tCont, L2.start, tDGet, sDPut, tTup, tLst, tDNewK, tRevL, rCat, rAppend, rPop, rSetL, tAndV, tOrV, tNotV, tSl, tPart, tNoPart, tM1, gTup, gCons, gNil, cxK, cxnK, List.map_cons, List.map_nil, List.length_cons, List.length_nil, List.replicate, List.cons_append, List.nil_append, List.append_nil, List.set_cons_zero, List.set_cons_succ, List.getElem?_cons_zero, List.getElem?_cons_succ, Option.some.injEq, V.ref.injEq, V.int.injEq, V.str.injEq, V.bl.injEq, V.ty.injEq, exists_eq_left', exists_eq_left, exists_and_left, List.cons.injEq, and_true, true_and, sc_ii, sc_ss, sc_bb, sc_ni, sc_in, sc_is, sc_si, sc_nn, decide_true, decide_false, reduceCtorEq, Bool.false_eq_true, if_true, if_false, ite_true, ite_false, exists_const, eq_self, false_and, and_false, or_false, false_or, exists_false, Evl.rLenS, rSum, wipe, tYes, exists_eq, exists_eq', rIxL, rIxT, rIxS, exists_and_right, gt_iff_lt, not_true_eq_false, not_false_eq_true, Bool.not_true, Bool.not_false, decide_eq_true_eq, Nat.reduceSub, Nat.reduceAdd, List.append_assoc, tChain, tDIn, tDNotIn, sDDel, tAug, ipI, List.isEmpty]
        refine ⟨xs, .inl (kp.ls not0 hS), ?_⟩
        rw [hst.1]
        refine q (some ls.length) H1 (.held hf ⟨n, ?_⟩) kp
        rw [hh.c, if_pos List.mem_cons_self]
        decide
end
/-! ### sections_of -/
theorem held_ex {ls : List Lk} (hf : ∀ i, i < ls.length → fine ls i) : ∀ i, i ≤ ls.length → ∃ hs, Held ls i hs
  | 0, _ => ⟨[], .zero⟩
  | i + 1, hi => by
    obtain ⟨hs, h⟩ := held_ex hf i (by omega)
    obtain ⟨l, el⟩ : ∃ l, ls[i]? = some l := ⟨_, List.getElem?_eq_getElem (show i < ls.length by omega)⟩
    match l, el with
    | none, el => exact ⟨hs, h.oth el⟩
    | some (true, n), el =>
      have z := hf i (by omega) _ _ el
      rw [h.c] at z
      have hn : n ∉ hs := fun q => by rw [if_pos q] at z; cases z
      exact ⟨_, h.lock el hn⟩
    | some (false, n), el =>
      have z := hf i (by omega) _ _ el
      rw [h.c] at z
      have hn : n ∈ hs := Classical.byContradiction fun q => by rw [if_neg q] at z; cases z
      exact ⟨_, h.free el hn⟩
theorem dp_nonneg {ls : List Lk} (hf : ∀ i, i < ls.length → fine ls i) {i : Nat} (hi : i ≤ ls.length) : 0 ≤ dp ls i := by
  obtain ⟨hs, h⟩ := held_ex hf i hi
  rw [h.d]; omega
theorem dp_free {ls : List Lk} (hf : ∀ i, i < ls.length → fine ls i) {i : Nat} {n : Str} (e : ls[i]? = some (some (false, n))) : 0 < dp ls i := by
  have hi := (List.getElem?_eq_some_iff.mp e).1
  obtain ⟨hs, h⟩ := held_ex hf i (by omega)
  have z := hf i hi _ _ e
  rw [h.c] at z
  have hn : n ∈ hs := Classical.byContradiction fun q => by rw [if_neg q] at z; cases z
  rw [h.d]
  have := List.length_pos_of_mem hn
  omega
theorem dp_end {ls : List Lk} (hf : ∀ i, i < ls.length → fine ls i) (h0 : ∀ n, cn n ls ls.length = 0) : dp ls ls.length = 0 := by
  obtain ⟨hs, h⟩ := held_ex hf ls.length (Nat.le_refl _)
  cases hs with
  | nil => exact h.d
  | cons n r =>
    have z := h0 n
    rw [h.c, if_pos List.mem_cons_self] at z
    cases z
structure PairOk (ls : List Lk) (b f l : Nat) : Prop where
  bf : b ≤ f
  fl : f < l
  ll : l < ls.length
  lk : ∃ n, ls[f]? = some (some (true, n))
  d0 : dp ls f = 0
  fr : ∃ n, ls[l]? = some (some (false, n))
  d1 : dp ls (l + 1) = 0
  ah : ∀ j, b ≤ j → j < f → ls[j]? = some none
  inn : ∀ j, f < j → j ≤ l → dp ls j ≠ 0
inductive Secs (ls : List Lk) : List (Nat × Nat) → Nat → Prop
  | nil : Secs ls [] 0
  | snoc {ps : List (Nat × Nat)} {b f l : Nat} : Secs ls ps b → PairOk ls b f l → Secs ls (ps ++ [(f, l)]) (l + 1)
/-- pairs of numbers in the heap -/
def Prs (H : Hp) (vs : List V) (ps : List (Nat × Nat)) : Prop := vs.length = ps.length ∧ ∀ (i : Nat) (v : V), vs[i]? = some v → ∃ (t : Addr) (p : Nat × Nat), v = .ref t ∧ ps[i]? = some p ∧ H t = some (.tup [.int (p.1 : Nat), .int (p.2 : Nat)])
theorem Prs.kp {H H' : Hp} {S : List Addr} {vs : List V} {ps : List (Nat × Nat)} (h : Prs H vs ps) (k : Kp S H H') (hS : ∀ a ∈ S, ∃ xs, H a = some (.lst xs)) : Prs H' vs ps := ⟨h.1, fun i v e => by
  obtain ⟨t, p, h1, h2, h3⟩ := h.2 i v e
  refine ⟨t, p, h1, h2, k _ _ (fun z => ?_) h3⟩
  obtain ⟨xs, q⟩ := hS t z
  rw [h3] at q; cases q⟩
theorem Prs.snoc {H : Hp} {vs : List V} {ps : List (Nat × Nat)} {t : Addr} {p : Nat × Nat} (h : Prs H vs ps) (e : H t = some (.tup [.int (p.1 : Nat), .int (p.2 : Nat)])) : Prs H (vs ++ [.ref t]) (ps ++ [p]) := by
  refine ⟨by rw [List.length_append, List.length_append, h.1]; rfl, fun i v ev => ?_⟩
  by_cases hi : i < vs.length
  · rw [List.getElem?_append_left hi] at ev
    obtain ⟨t', p', h1, h2, h3⟩ := h.2 i v ev
    exact ⟨t', p', h1, by rw [List.getElem?_append_left (by rw [← h.1]; exact hi)]; exact h2, h3⟩
  · have hl := (List.getElem?_eq_some_iff.mp ev).1
    rw [List.length_append, List.length_singleton] at hl
    have hi' : i = vs.length := by omega
    subst hi'
    rw [List.getElem?_concat_length] at ev
    cases ev
    exact ⟨t, p, rfl, by rw [h.1]; exact List.getElem?_concat_length, e⟩
/-- behind i steps: what was found, and the first lock step of the section that is open -/
def SecSt (ls : List Lk) (i : Nat) (ps : List (Nat × Nat)) (first : Int) : Prop :=
  (dp ls i = 0 ∧ ∃ b, Secs ls ps b ∧ b ≤ i ∧ ∀ j, b ≤ j → j < i → ls[j]? = some none) ∨
  (dp ls i ≠ 0 ∧ ∃ b f : Nat, first = f ∧ Secs ls ps b ∧ b ≤ f ∧ f < i ∧ (∃ n, ls[f]? = some (some (true, n))) ∧ dp ls f = 0 ∧ (∀ j, b ≤ j → j < f → ls[j]? = some none) ∧ ∀ j, f < j → j ≤ i → dp ls j ≠ 0)
def SecInv (a o : Addr) (ls : List Lk) (H : Hp) (i : Nat) (σ : L2.St) (H' : Hp) : Prop := ∃ (vs : List V) (ps : List (Nat × Nat)) (first : Int) (c1 c2 : Option V), σ = [some (.ref a), some (.ref o), some (.int (dp ls i)), some (.int first), c1, c2] ∧ H' o = some (.lst vs) ∧ Prs H' vs ps ∧ ps.length ≤ i ∧ SecSt ls i ps first ∧ Kp [] H H'
def spSecs (K : PySem.W.Frag) : Sp := fun vs H Q _ => ∃ (a : Addr) (xs : List V) (ls : List Lk), vs = [.ref a] ∧ SqL K H a xs ∧ Steps H xs ls ∧ xs.length ≤ 1000 ∧ IsF ls none ∧
  ∀ (p : Addr) (us : List V) (ps : List (Nat × Nat)) (b : Nat) (H' : Hp), H p = none → H' p = some (.lst us) → Prs H' us ps → ps.length ≤ 1000 → Secs ls ps b → b ≤ ls.length → (∀ j, b ≤ j → j < ls.length → ls[j]? = some none) → Kp [] H H' → Q (.ref p) H'
section
variable {P : Program} {w : World} {K : PySem.W.Frag} {mg : Str → Option Value} {base : Heap}
theorem ok_sections_of {f : Addr} {fd : FuncData} (D : Df K mg "sections_of" s_sections_of ["steps"] f fd) (T : Bt2 mg) : FnOk P w K mg base CX0 1 f fd ["steps"] (spSecs K) := by
  refine D.F.ok sc_sections_of (fun vs H Q E h => ?_) (fun cdv A outer s H vs Q E hr h => ?_)
  · obtain ⟨a, _, _, rfl, _⟩ := h
    rfl
  · obtain ⟨a, xs, ls, rfl, hS, hst, hl, hF, q⟩ := h
    have hf : ∀ i, i < ls.length → fine ls i := by cases hF; assumption
    have h0 : ∀ n, cn n ls ls.length = 0 := by cases hF; assumption
    refine ⟨_, (pss_cons (ps_set (i := 1) sc_sections_of.nd rfl (Or.inl rfl) (pe_lst pa_nil))
      (pss_cons (ps_set (i := 2) sc_sections_of.nd rfl (Or.inl rfl) pe_int)
      (pss_cons (ps_set (i := 3) sc_sections_of.nd rfl (Or.inl rfl) pe_int)
      (pss_cons (ps_for PassesOwn.never rfl (pi_enum rfl T.b_enumerate (pa_cons (pv 0) pa_nil)) (pg_tup (n := 2) (by rfl) (pgs_cons (pg_name (i := 4) sc_sections_of.nd rfl (Or.inl rfl)) (pgs_cons (pg_name (i := 5) sc_sections_of.nd rfl (Or.inl rfl)) pgs_nil))) (pss_one (ps_if (pt_cmpR op_eq (pe_ix (r := rIxT K) ix_tup (pv 5) pe_int (fun _ _ => rfl)) pe_str (nomark _)) (pss_cons (ps_if (pt_cmpR op_eq (pv 2) pe_int (nomark _)) (pss_one (ps_set (i := 3) sc_sections_of.nd rfl (Or.inl rfl) (pv 4))) pss_nil)
      (pss_one (ps_aug (i := 2) sc_sections_of.nd rfl (Or.inl rfl) pe_int ip_add))) (pss_one (ps_if (pt_cmpR op_eq (pe_ix (r := rIxT K) ix_tup (pv 5) pe_int (fun _ _ => rfl)) pe_str (nomark _)) (pss_cons (ps_aug (i := 2) sc_sections_of.nd rfl (Or.inl rfl) pe_int ip_sub)
      (pss_one (ps_if (pt_cmpR op_eq (pv 2) pe_int (nomark _)) (pss_one (ps_expr (pe_bm PySem.F.plainAttrs_list PySem.F.slot_list_append PySem.F.type_list_append mt_append (pv 1) (pa_cons (pe_tup (pa_cons (pv 3) (pa_cons (pv 4) pa_nil))) pa_nil)))) pss_nil))) pss_nil)))))
      (pss_one (ps_ret (pv 1))))))), ?_⟩
    simp only [tSeq, tIfS, tTest, tOp, tUn, tCB, tCons, tNil, tVar, tC, rI0, rI, rU, rEq, rNe, tRet, tRetN, tAsg, gName, gSub, tBM, tBM0, tNext, tB, tNot, tAnd, tOr, tIf, tCall, tDrop, tBreak, tCont, L2.start, tDGet, sDPut, tTup, tLst, tDNewK, tRevL, rCat, rAppend, rPop, rSetL, tAndV, tOrV, tNotV, tSl, tPart, tNoPart, tM1, gTup, gCons, gNil, cxK, cxnK, List.map_cons, List.map_nil, List.length_cons, List.length_nil, List.replicate, List.cons_append, List.nil_append, List.append_nil, List.set_cons_zero, List.set_cons_succ, List.getElem?_cons_zero, List.getElem?_cons_succ, Option.some.injEq, V.ref.injEq, V.int.injEq, V.str.injEq, V.bl.injEq, V.ty.injEq, exists_eq_left', exists_eq_left, exists_and_left, List.cons.injEq, and_true, true_and, sc_ii, sc_ss, sc_bb, sc_ni, sc_in, sc_is, sc_si, sc_nn, decide_true, decide_false, reduceCtorEq, Bool.false_eq_true, if_true, if_false, ite_true, ite_false, exists_const, eq_self, false_and, and_false, or_false, false_or, exists_false, Evl.rLenS, rSum, wipe, tYes, exists_eq, exists_eq', rIxL, rIxT, rIxS, exists_and_right, gt_iff_lt, not_true_eq_false, not_false_eq_true, Bool.not_true, Bool.not_false, decide_eq_true_eq, Nat.reduceSub, Nat.reduceAdd, List.append_assoc, tChain, tDIn, tDNotIn, sDDel, tAug, ipI]
    refine ⟨small (by decide), fun o no => ?_⟩
    refine ⟨.ref a, rfl, a, xs, rfl, (Kp.new no).ls not0 hS, ?_⟩
    refine for_it (walk_enum (K := K) (a := a) (xs := xs)) (SecInv a o ls H) ⟨[], [], 0, _, _, rfl, upd_same, ⟨rfl, fun i v e => nomatch e⟩, Nat.le_refl _, .inl ⟨rfl, 0, .nil, Nat.le_refl _, fun j _ hj => absurd hj (by omega)⟩, Kp.new no⟩ ?_ ?_ ?_
    · rintro i σ H1 _ ⟨us, ps, fi, c1, c2, rfl, ho, hp, hz, ss, kp⟩
      exact kp.ls not0 hS
    · rintro i x σ H1 H2 hi ⟨us, ps, fi, c1, c2, rfl, ho, hp, hz, ss, kp⟩ ⟨t, u, v, rfl, nt, rfl, e1, e2⟩
      cases e1
      obtain ⟨l, el, sv⟩ := hst.2 i v e2
      have k1 : Kp [] H1 (upd H1 t (.tup [.int (i : Nat), v])) := Kp.new nt
      have k01 := kp.trans k1
      have ho1 := k1 _ _ not0 ho
      have hp1 := hp.kp k1 (fun a h => nomatch h)
      obtain ⟨b, x, qs, rfl, eb, cs⟩ := (sv.kp k01).at0 (K := K)
      have hil : i < ls.length := by rw [← hst.1]; exact hi
      simp only [tSeq, tIfS, tTest, tOp, tUn, tCB, tCons, tNil, tVar, tC, rI0, rI, rU, rEq, rNe, tRet, tRetN, tAsg, gName, gSub, tBM, tBM0, tNext, tB, tNot, tAnd, tOr, tIf, tCall, tDrop, tBreak, tCont, L2.start, tDGet, sDPut, tTup, tLst, tDNewK, tRevL, rCat, rAppend, rPop, rSetL, tAndV, tOrV, tNotV, tSl, tPart, tNoPart, tM1, gTup, gCons, gNil, cxK, cxnK, List.map_cons, List.map_nil, List.length_cons, List.length_nil, List.replicate, List.cons_append, List.nil_append, List.append_nil, List.set_cons_zero, List.set_cons_succ, List.getElem?_cons_zero, List.getElem?_cons_succ, Option.some.injEq, V.ref.injEq, V.int.injEq, V.str.injEq, V.bl.injEq, V.ty.injEq, exists_eq_left', exists_eq_left, exists_and_left, List.cons.injEq, and_true, true_and, sc_ii, sc_ss, sc_bb, sc_ni, sc_in, sc_is, sc_si, sc_nn, decide_true, decide_false, reduceCtorEq, Bool.false_eq_true, if_true, if_false, ite_true, ite_false, exists_const, eq_self, false_and, and_false, or_false, false_or, exists_false, Evl.rLenS, rSum, wipe, tYes, exists_eq, exists_eq', rIxL, rIxT, rIxS, exists_and_right, gt_iff_lt, not_true_eq_false, not_false_eq_true, Bool.not_true, Bool.not_false, decide_eq_true_eq, Nat.reduceSub, Nat.reduceAdd, List.append_assoc, tChain, tDIn, tDNotIn, sDDel, tAug, ipI]
      refine ⟨_, sq_t upd_same, rfl, _, _, rfl, _, _, rfl, rfl, ?_⟩
      simp only [tSeq, tIfS, tTest, tOp, tUn, tCB, tCons, tNil, tVar, tC, rI0, rI, rU, rEq, rNe, tRet, tRetN, tAsg, gName, gSub, tBM, tBM0, tNext, tB, tNot, tAnd, tOr, tIf, tCall, tDrop, tBreak, tCont, L2.start, tDGet, sDPut, tTup, tLst, tDNewK, tRevL, rCat, rAppend, rPop, rSetL, tAndV, tOrV, tNotV, tSl, tPart, tNoPart, tM1, gTup, gCons, gNil, cxK, cxnK, List.map_cons, List.map_nil, List.length_cons, List.length_nil, List.replicate, List.cons_append, List.nil_append, List.append_nil, List.set_cons_zero, List.set_cons_succ, List.getElem?_cons_zero, List.getElem?_cons_succ, Option.some.injEq, V.ref.injEq, V.int.injEq, V.str.injEq, V.bl.injEq, V.ty.injEq, exists_eq_left', exists_eq_left, exists_and_left, List.cons.injEq, and_true, true_and, sc_ii, sc_ss, sc_bb, sc_ni, sc_in, sc_is, sc_si, sc_nn, decide_true, decide_false, reduceCtorEq, Bool.false_eq_true, if_true, if_false, ite_true, ite_false, exists_const, eq_self, false_and, and_false, or_false, false_or, exists_false, Evl.rLenS, rSum, wipe, tYes, exists_eq, exists_eq', rIxL, rIxT, rIxS, exists_and_right, gt_iff_lt, not_true_eq_false, not_false_eq_true, Bool.not_true, Bool.not_false, decide_eq_true_eq, Nat.reduceSub, Nat.reduceAdd, List.append_assoc, tChain, tDIn, tDNotIn, sDDel, tAug, ipI]
      refine ⟨_, sq_t eb, _, atI_of (by decide) rfl, ?_⟩
      rcases cs with ⟨rfl, x1, x2⟩ | ⟨n, rfl, rfl, rfl⟩ | ⟨n, rfl, rfl, rfl⟩
      · simp only [tSeq, tIfS, tTest, tOp, tUn, tCB, tCons, tNil, tVar, tC, rI0, rI, rU, rEq, rNe, tRet, tRetN, tAsg, gName, gSub, tBM, tBM0, tNext, tB, tNot, tAnd, tOr, tIf, tCall, tDrop, tBreak, tCont, L2.start, tDGet, sDPut, tTup, tLst, tDNewK, tRevL, rCat, rAppend, rPop, rSetL, tAndV, tOrV, tNotV, tSl, tPart, tNoPart, tM1, gTup, gCons, gNil, cxK, cxnK, List.map_cons, List.map_nil, List.length_cons, List.length_nil, List.replicate, List.cons_append, List.nil_append, List.append_nil, List.set_cons_zero, List.set_cons_succ, List.getElem?_cons_zero, List.getElem?_cons_succ, Option.some.injEq, V.ref.injEq, V.int.injEq, V.str.injEq, V.bl.injEq, V.ty.injEq, exists_eq_left', exists_eq_left, exists_and_left, List.cons.injEq, and_true, true_and, sc_ii, sc_ss, sc_bb, sc_ni, sc_in, sc_is, sc_si, sc_nn, decide_true, decide_false, reduceCtorEq, Bool.false_eq_true, if_true, if_false, ite_true, ite_false, exists_const, eq_self, false_and, and_false, or_false, false_or, exists_false, Evl.rLenS, rSum, wipe, tYes, exists_eq, exists_eq', rIxL, rIxT, rIxS, exists_and_right, gt_iff_lt, not_true_eq_false, not_false_eq_true, Bool.not_true, Bool.not_false, decide_eq_true_eq, Nat.reduceSub, Nat.reduceAdd, List.append_assoc, tChain, tDIn, tDNotIn, sDDel, tAug, ipI, x1]
        refine ⟨_, sq_t eb, _, atI_of (by decide) rfl, ?_⟩
        simp only [tSeq, tIfS, tTest, tOp, tUn, tCB, tCons, tNil, tVar, tC, rI0, rI, rU, rEq, rNe, tRet, tRetN, tAsg, gName, gSub, tBM, tBM0, tNext, tB, tNot, tAnd, tOr, tIf, tCall, tDrop, tBreak, tCont, L2.start, tDGet, sDPut, tTup, tLst, tDNewK, tRevL, rCat, rAppend, rPop, rSetL, tAndV, tOrV, tNotV, tSl, tPart, tNoPart, tM1, gTup, gCons, gNil, cxK, cxnK, List.map_cons, List.map_nil, List.length_cons, List.length_nil, List.replicate, List.cons_append, List.nil_append, List.append_nil, List.set_cons_zero, List.set_cons_succ, List.getElem?_cons_zero, List.getElem?_cons_succ, Option.some.injEq, V.ref.injEq, V.int.injEq, V.str.injEq, V.bl.injEq, V.ty.injEq, exists_eq_left', exists_eq_left, exists_and_left, List.cons.injEq, and_true, true_and, sc_ii, sc_ss, sc_bb, sc_ni, sc_in, sc_is, sc_si, sc_nn, decide_true, decide_false, reduceCtorEq, Bool.false_eq_true, if_true, if_false, ite_true, ite_false, exists_const, eq_self, false_and, and_false, or_false, false_or, exists_false, Evl.rLenS, rSum, wipe, tYes, exists_eq, exists_eq', rIxL, rIxT, rIxS, exists_and_right, gt_iff_lt, not_true_eq_false, not_false_eq_true, Bool.not_true, Bool.not_false, decide_eq_true_eq, Nat.reduceSub, Nat.reduceAdd, List.append_assoc, tChain, tDIn, tDNotIn, sDDel, tAug, ipI, x2]
        have ed : dp ls (i + 1) = dp ls i := by rw [dp_next el]; simp [one]
        refine ⟨us, ps, fi, _, _, by rw [ed], ho1, hp1, by omega, ?_, k01⟩
        rcases ss with ⟨d, b', s1, s2, s3⟩ | ⟨d, b', f', s1, s2, s3, s4, s5, s6, s7, s8⟩
        · exact .inl ⟨by rw [ed]; exact d, b', s1, by omega, fun j h1 h2 => by
            by_cases z : j = i
            · rw [z]; exact el
            · exact s3 j h1 (by omega)⟩
        · exact .inr ⟨by rw [ed]; exact d, b', f', s1, s2, s3, by omega, s5, s6, s7, fun j h1 h2 => by
            by_cases z : j = i + 1
            · rw [z, ed]; exact d
            · exact s8 j h1 (by omega)⟩
      · simp only [tSeq, tIfS, tTest, tOp, tUn, tCB, tCons, tNil, tVar, tC, rI0, rI, rU, rEq, rNe, tRet, tRetN, tAsg, gName, gSub, tBM, tBM0, tNext, tB, tNot, tAnd, tOr, tIf, tCall, tDrop, tBreak, tCont, L2.start, tDGet, sDPut, tTup, tLst, tDNewK, tRevL, rCat, rAppend, rPop, rSetL, tAndV, tOrV, tNotV, tSl, tPart, tNoPart, tM1, gTup, gCons, gNil, cxK, cxnK, List.map_cons, List.map_nil, List.length_cons, List.length_nil, List.replicate, List.cons_append, List.nil_append, List.append_nil, List.set_cons_zero, List.set_cons_succ, List.getElem?_cons_zero, List.getElem?_cons_succ, Option.some.injEq, V.ref.injEq, V.int.injEq, V.str.injEq, V.bl.injEq, V.ty.injEq, exists_eq_left', exists_eq_left, exists_and_left, List.cons.injEq, and_true, true_and, sc_ii, sc_ss, sc_bb, sc_ni, sc_in, sc_is, sc_si, sc_nn, decide_true, decide_false, reduceCtorEq, Bool.false_eq_true, if_true, if_false, ite_true, ite_false, exists_const, eq_self, false_and, and_false, or_false, false_or, exists_false, Evl.rLenS, rSum, wipe, tYes, exists_eq, exists_eq', rIxL, rIxT, rIxS, exists_and_right, gt_iff_lt, not_true_eq_false, not_false_eq_true, Bool.not_true, Bool.not_false, decide_eq_true_eq, Nat.reduceSub, Nat.reduceAdd, List.append_assoc, tChain, tDIn, tDNotIn, sDDel, tAug, ipI]
        have ed : dp ls (i + 1) = dp ls i + 1 := by rw [dp_next el]; rfl
        have nn := dp_nonneg hf (show i ≤ ls.length by omega)
        by_cases hd : dp ls i = 0
        · rw [if_pos hd]
          refine ⟨us, ps, i, _, _, by rw [ed], ho1, hp1, by omega, ?_, k01⟩
          rcases ss with ⟨d, b', s1, s2, s3⟩ | ⟨d, _⟩
          · exact .inr ⟨by omega, b', i, rfl, s1, s2, by omega, ⟨n, el⟩, hd, s3, fun j h1 h2 => by
              have z : j = i + 1 := by omega
              rw [z]; omega⟩
          · exact absurd hd d
        · rw [if_neg hd]
          refine ⟨us, ps, fi, _, _, by rw [ed], ho1, hp1, by omega, ?_, k01⟩
          rcases ss with ⟨d, _⟩ | ⟨d, b', f', s1, s2, s3, s4, s5, s6, s7, s8⟩
          · exact absurd d hd
          · exact .inr ⟨by omega, b', f', s1, s2, s3, by omega, s5, s6, s7, fun j h1 h2 => by
              by_cases z : j = i + 1
              · rw [z]; omega
              · exact s8 j h1 (by omega)⟩
      · have fl : (Str.ofString "free" = Str.ofString "lock") = False := eq_false free_lock
        simp only [tSeq, tIfS, tTest, tOp, tUn, tCB, tCons, tNil, tVar, tC, rI0, rI, rU, rEq, rNe, tRet, tRetN, tAsg, gName, gSub, tBM, tBM0, tNext, tB, tNot, tAnd, tOr, tIf, tCall, tDrop, tBreak, tCont, L2.start, tDGet, sDPut, tTup, tLst, tDNewK, tRevL, rCat, rAppend, rPop, rSetL, tAndV, tOrV, tNotV, tSl, tPart, tNoPart, tM1, gTup, gCons, gNil, cxK, cxnK, List.map_cons, List.map_nil, List.length_cons, List.length_nil, List.replicate, List.cons_append, List.nil_append, List.append_nil, List.set_cons_zero, List.set_cons_succ, List.getElem?_cons_zero, List.getElem?_cons_succ, Option.some.injEq, V.ref.injEq, V.int.injEq, V.str.injEq, V.bl.injEq, V.ty.injEq, exists_eq_left', exists_eq_left, exists_and_left, List.cons.injEq, and_true, true_and, sc_ii, sc_ss, sc_bb, sc_ni, sc_in, sc_is, sc_si, sc_nn, decide_true, decide_false, reduceCtorEq, Bool.false_eq_true, if_true, if_false, ite_true, ite_false, exists_const, eq_self, false_and, and_false, or_false, false_or, exists_false, Evl.rLenS, rSum, wipe, tYes, exists_eq, exists_eq', rIxL, rIxT, rIxS, exists_and_right, gt_iff_lt, not_true_eq_false, not_false_eq_true, Bool.not_true, Bool.not_false, decide_eq_true_eq, Nat.reduceSub, Nat.reduceAdd, List.append_assoc, tChain, tDIn, tDNotIn, sDDel, tAug, ipI, fl]
        have ed : dp ls (i + 1) = dp ls i - 1 := by rw [dp_next el]; rfl
        have pos := dp_free hf el
        refine ⟨_, sq_t eb, _, atI_of (by decide) rfl, ?_⟩
        simp only [tSeq, tIfS, tTest, tOp, tUn, tCB, tCons, tNil, tVar, tC, rI0, rI, rU, rEq, rNe, tRet, tRetN, tAsg, gName, gSub, tBM, tBM0, tNext, tB, tNot, tAnd, tOr, tIf, tCall, tDrop, tBreak, tCont, L2.start, tDGet, sDPut, tTup, tLst, tDNewK, tRevL, rCat, rAppend, rPop, rSetL, tAndV, tOrV, tNotV, tSl, tPart, tNoPart, tM1, gTup, gCons, gNil, cxK, cxnK, List.map_cons, List.map_nil, List.length_cons, List.length_nil, List.replicate, List.cons_append, List.nil_append, List.append_nil, List.set_cons_zero, List.set_cons_succ, List.getElem?_cons_zero, List.getElem?_cons_succ, Option.some.injEq, V.ref.injEq, V.int.injEq, V.str.injEq, V.bl.injEq, V.ty.injEq, exists_eq_left', exists_eq_left, exists_and_left, List.cons.injEq, and_true, true_and, sc_ii, sc_ss, sc_bb, sc_ni, sc_in, sc_is, sc_si, sc_nn, decide_true, decide_false, reduceCtorEq, Bool.false_eq_true, if_true, if_false, ite_true, ite_false, exists_const, eq_self, false_and, and_false, or_false, false_or, exists_false, Evl.rLenS, rSum, wipe, tYes, exists_eq, exists_eq', rIxL, rIxT, rIxS, exists_and_right, gt_iff_lt, not_true_eq_false, not_false_eq_true, Bool.not_true, Bool.not_false, decide_eq_true_eq, Nat.reduceSub, Nat.reduceAdd, List.append_assoc, tChain, tDIn, tDNotIn, sDDel, tAug, ipI]
        rcases ss with ⟨d, _⟩ | ⟨d, b', f', rfl, s2, s3, s4, s5, s6, s7, s8⟩
        · omega
        by_cases hd : dp ls i - 1 = 0
        · rw [if_pos hd]
          refine ⟨.inl ⟨rfl, _, sq_l ho1⟩, small (by decide), fun r nr => ?_⟩
          have k2 : Kp [] (upd H1 t (.tup [.int (i : Nat), .ref b])) (upd (upd H1 t (.tup [.int (i : Nat), .ref b])) r (.tup [.int (f' : Nat), .int (i : Nat)])) := Kp.new nr
          have ho2 := k2 _ _ not0 ho1
          refine ⟨_, ho2, by rw [hp.1]; exact smallL (by omega), _, ps ++ [(f', i)], f', _, _, by rw [ed], upd_same, ?_, by rw [List.length_append, List.length_singleton]; omega, ?_, (k01.trans k2).wr no⟩
          · have hp2 := (hp1.kp k2 (fun a h => nomatch h)).snoc (t := r) (p := (f', i)) upd_same
            exact hp2.kp ((Kp.refl [o] _).put (List.mem_singleton.mpr rfl)) (fun a h => by rw [List.mem_singleton.mp h]; exact ⟨_, ho2⟩)
          · exact .inl ⟨by rw [ed]; exact hd, i + 1, s2.snoc ⟨s3, s4, hil, s5, s6, ⟨n, el⟩, by rw [ed]; exact hd, s7, s8⟩, Nat.le_refl _, fun j h1 h2 => absurd h1 (by omega)⟩
        · rw [if_neg hd]
          refine ⟨us, ps, f', _, _, by rw [ed], ho1, hp1, by omega, ?_, k01⟩
          exact .inr ⟨by omega, b', f', rfl, s2, s3, by omega, s5, s6, s7, fun j h1 h2 => by
            by_cases z : j = i + 1
            · rw [z]; omega
            · exact s8 j h1 (by omega)⟩
    · rintro σ H1 ⟨us, ps, fi, c1, c2, rfl, ho, hp, hz, ss, kp⟩
      simp only [tSeq, tIfS, tTest, tOp, tUn, tCB, tCons, tNil, tVar, tC, rI0, rI, rU, rEq, rNe, tRet, tRetN, tAsg, gName, gSub, tBM, tBM0, tNext, tB, tNot, tAnd, tOr, tIf, tCall, tDrop, tBreak, tCont, L2.start, tDGet, sDPut, tTup, tLst, tDNewK, tRevL, rCat, rAppend, rPop, rSetL, tAndV, tOrV, tNotV, tSl, tPart, tNoPart, tM1, gTup, gCons, gNil, cxK, cxnK, List.map_cons, List.map_nil, List.length_cons, List.length_nil, List.replicate, List.cons_append, List.nil_append, List.append_nil, List.set_cons_zero, List.set_cons_succ, List.getElem?_cons_zero, List.getElem?_cons_succ, Option.some.injEq, V.ref.injEq, V.int.injEq, V.str.injEq, V.bl.injEq, V.ty.injEq, exists_eq_left', exists_eq_left, exists_and_left, List.cons.injEq, and_true, true_and, sc_ii, sc_ss, sc_bb, sc_ni, sc_in, sc_is, sc_si, sc_nn, decide_true, decide_false, reduceCtorEq, Bool.false_eq_true, if_true, if_false, ite_true, ite_false, exists_const, eq_self, false_and, and_false, or_false, false_or, exists_false, Evl.rLenS, rSum, wipe, tYes, exists_eq, exists_eq', rIxL, rIxT, rIxS, exists_and_right, gt_iff_lt, not_true_eq_false, not_false_eq_true, Bool.not_true, Bool.not_false, decide_eq_true_eq, Nat.reduceSub, Nat.reduceAdd, List.append_assoc, tChain, tDIn, tDNotIn, sDDel, tAug, ipI]
      rw [hst.1] at ss hz
      rcases ss with ⟨_, b, s1, s2, s3⟩ | ⟨d, _⟩
      · exact q o us ps b H1 no ho hp (by have := hst.1; omega) s1 s2 s3 kp
      · exact absurd (dp_end hf h0) d
end
end My

set_option Elab.async false
set_option linter.all false
set_option maxRecDepth 100000
set_option maxHeartbeats 4000000
/-! ### defs that close over their class, and super().__init__(..) of an own error -/
namespace My
open PySem L2 NdefX
/-- a block whose activation is known -/
structure PSat (X : Cx) (c : Code) (body : List Stmt) (t : TS) : Prop where
  run : ∀ (pins : List (Addr × Obj)) (s : Shared) (σ : L2.St) (H : Hp) (D : Ends), Inv X pins σ H s → t D σ H → wpAt (model X.prog X.w) X.A c (execs body X.env) (SP X pins D) X.xe s
structure PSat1 (X : Cx) (c : Code) (st : Stmt) (t : TS) : Prop where
  run : ∀ (pins : List (Addr × Obj)) (s : Shared) (σ : L2.St) (H : Hp) (D : Ends), Inv X pins σ H s → t D σ H → wpAt (model X.prog X.w) X.A c (exec st X.env) (SP X pins D) X.xe s
theorem psat_of {X : Cx} {c : Code} {body : List Stmt} {t : TS} (h : PSs X body t) : PSat X c body t := ⟨fun pins s σ H D I q => wpAt_of_wpAny (h.run pins s σ H D I q)⟩
theorem psat_cons {X : Cx} {c : Code} {st : Stmt} {rest : List Stmt} {t u : TS} (h1 : PSat1 X c st t) (h2 : PSs X rest u) : PSat X c (st :: rest) (tSeq t u) := by
  refine ⟨fun pins s σ H D I q => ?_⟩
  refine PySem.ks_wpAt_execs_cons (wpAt_mono (h1.run pins s σ H { D with nx := u D } I q) (fun f s1 r => ?_) fun _ _ z => z)
  cases f with
  | next =>
    obtain ⟨σ', H', I', r⟩ := r
    exact wpAt_of_wpAny (h2.run pins s1 σ' H' D I' r)
  | brk => exact r
  | cont => exact r
  | ret u => exact r
/-- the words of a def that closes over its class -/
def nfOf (x qual : Str) (st : Stmt) (cc cda : Addr) : NF := ⟨x, qual, defArgs st, defBody st, defScope st, [("__class__", cc)], cda⟩
structure FunX (K : PySem.W.Frag) (x qual : Str) (st : Stmt) (f : Addr) (fd : FuncData) (cc cda D : Addr) : Prop where
  ex : ∃ (oc : Value) (od : Option Addr) (kV doc pm : Value) (an : Option Addr) (ct : Value) (osl : Array (Option Value)),
    fd = PySem.W.fnX x qual (defArgs st) (defBody st) (defScope st) [("__class__", cc)] .none kV doc pm an (.ref cda) ct ∧ K.lookup f = some ⟨oc, od, .func fd, osl⟩ ∧ PySem.W.codeIn K (.ref cda) qual = true
  cell : ∃ (cl : Value) (cld : Option Addr) (csl : Array (Option Value)), K.lookup cc = some ⟨cl, cld, .cell (some (.ref D)), csl⟩
  kp : PySem.W.keepIn K (.ref f) = true
section
variable {P : Program} {w : World} {K : PySem.W.Frag} {mg : Str → Option Value} {base : Heap}
abbrev cxX (CX : CXT) (P : Program) (w : World) (K : PySem.W.Frag) (mg : Str → Option Value) (base : Heap) (N : List Str) (x qual : Str) (st : Stmt) (cc cda f : Addr) (A : Around) (outer : List Env) (s : Shared) (H : Hp) (E : XK) : Cx := ncx CX P w K mg base N (nfOf x qual st cc cda) f A outer s H E
theorem FunX.ok {CX : CXT} {x qual : Str} {st : Stmt} {f cc cda D : Addr} {fd : FuncData} {N ps : List Str} {k : Nat} {sp : Sp} (F : FunX K x qual st f fd cc cda D) (S : NScope N ps ["__class__"] (defScope st)) (len : ∀ vs H Q E, sp vs H Q E → vs.length = ps.length)
    (hbody : ∀ (A : Around) (outer : List Env) (s : Shared) (H : Hp) (vs : List V) (Q : VK) (E : XK), Room k (A.deeper (envF (nfOf x qual st cc cda) f s.heap.objs.size)) → sp vs H Q E →
      ∃ t, PSat (cxX CX P w K mg base N x qual st cc cda f A outer s H E) (.func (defBody st) (envF (nfOf x qual st cc cda) f s.heap.objs.size)) (defBody st) t ∧ t { nx := fun _ H' => Q .non H', rt := Q } (startF N vs [some (.ref D)]) H) :
    FnOk P w K mg base CX (k + 1) f fd ps sp := by
  obtain ⟨oc, od, kV, doc, pm, an, ct, osl, rfl, lk, hcd⟩ := F.ex
  obtain ⟨cl, cld, csl, hcc⟩ := F.cell
  refine ⟨len, fun A outer s H args us vs Q E hr e0 hb r hsp => ?_⟩
  have hl := len _ _ _ _ hsp
  have KX : K.In s.heap := e0.mod.kin.keeps fun b o e => (e0.bs b o e).1
  have lim : s.heap.NoLimit := e0.mod.nolimit.keeps fun b o e => (e0.bs b o e).1
  have hcB := e0.mod.kin _ _ hcc
  have C : CellsAt (nfOf x qual st cc cda).cl ["__class__"] [some (.ref D)] s.heap H := by
    refine ⟨rfl, fun y c e => ?_, fun a b c e1 e2 => ?_, fun i y e => ?_⟩
    · have e' : (if y = ("__class__" : Str) then some cc else none) = some c := by
        rw [← e]
        show _ = List.lookup y [(("__class__" : Str), cc)]
        rw [List.lookup_cons, List.lookup_nil]
        by_cases h : y = ("__class__" : Str)
        · rw [if_pos h, beq_iff_eq.mpr h]
        · rw [if_neg h, beq_eq_false_iff_ne.mpr h]
      split at e'
      · cases e'
        exact ⟨(e0.bs _ _ hcB).2, _, _, KX _ _ hcc, rfl⟩
      · cases e'
    · have g : ∀ (y : Str) (d : Addr), List.lookup y [(("__class__" : Str), cc)] = some d → y = "__class__" := by
        intro y d e
        rw [List.lookup_cons, List.lookup_nil] at e
        by_cases h : y = ("__class__" : Str)
        · exact h
        · rw [beq_eq_false_iff_ne.mpr h] at e
          cases e
      exact (g a c e1).trans (g b c e2).symm
    · match i, e with
      | 0, e =>
        have ey : y = "__class__" := (Option.some.inj e).symm
        subst ey
        exact ⟨cc, rfl, fun v hv => ⟨.ref D, by cases hv; rfl, _, KX _ _ hcc, rfl⟩⟩
      | i + 1, e => cases e
  refine PySem.ks_codeAny_call_defAt (fd := PySem.W.fnX x qual (defArgs st) (defBody st) (defScope st) [("__class__", cc)] .none kV doc pm an (.ref cda) ct) (body := defBody st) (binds := ps.zip us) hr.depth (KX _ _ lk) rfl lim (PySem.W.codeRec_of KX hcd) rfl hb S.nocell (fun ⟨n, v⟩ hy => S.par n (List.of_mem_zip hy).1) (fun h₁ hns kp => ?_) S.co S.gen S.kind
  obtain ⟨t, ht, hq⟩ := hbody A outer s H vs Q E (hr.deeper _) hsp
  have I : Inv (cxX CX P w K mg base N x qual st cc cda f A outer s H E) [] (startF N vs [some (.ref D)]) H { s with heap := h₁, toks := s.toks + (ps.zip us).length } := inv_startN S hr.hd e0 hl r C hns kp
  refine wpAt_mono (ht.run [] _ (startF N vs [some (.ref D)]) H _ I hq) (fun fl s' hs => ?_) fun e s' hs => hs
  have fin : ∀ {σ' : L2.St} {H' : Hp} {v : V} {u : Value}, Inv (cxX CX P w K mg base N x qual st cc cda f A outer s H E) [] σ' H' s' → L2.RelV v u → Q v H' → CE outer P w H s Q u s' :=
    fun {σ' H' v u} J rv q => ⟨v, H', J.os, J.bare, J.base, J.hok, rv, q⟩
  cases fl with
  | ret u =>
    obtain ⟨v, σ', H', J, rv, q⟩ := hs
    exact fin J rv q
  | next =>
    obtain ⟨σ', H', J, q⟩ := hs
    exact fin (v := V.non) (u := Value.none) J rfl q
  | brk =>
    obtain ⟨_, _, _, q⟩ := hs
    exact False.elim q
  | cont =>
    obtain ⟨_, _, _, q⟩ := hs
    exact False.elim q
end

/-! ### super().__init__(e) -/
/-- what the written part says of an own error that is made by an __init__ of its own: OexC, its place in the chain -/
structure ErrC (K : PySem.W.Frag) (C : Addr) : Prop where
  ox : OexC K C
  sup : PySem.W.ks_superIn K C C "__init__" = some (some (.builtin "ValueError.__init__"))
  isV : PySem.W.subIn K (.ref C) (.type "ValueError") = some true
  opq : PySem.W.nsIn K cStatics "thirdparty.any" = some none
  me : PySem.W.mroIn K C (.ref C) = some true
/-- what the code object of the def tells -/
structure CodeF (K : PySem.W.Frag) (P : Program) (cda : Addr) : Prop where
  at_ : ∃ (ccl : Value) (cdd : Option Addr) (vs : Array Value) (ccs : Array (Option Value)) (file : Str) (tf : Tok), K.lookup cda = some ⟨ccl, cdd, .fields vs, ccs⟩ ∧ vs[2]? = some (.str file tf) ∧ ((P.main.file : Str) == file) = true
  noTop : (P.main.scope.names.lookup ("super" : Str)).isSome = false
/-- the reading: the text is reckoned, nothing more -/
def tSupI (C : Addr) (ta : TA) : TS := fun D σ H => ∃ a : Addr, σ[0]? = some (some (.ref a)) ∧ H a = some (exo a C none) ∧ ta σ H fun vs H1 => vs.length ≤ 1000 ∧ H1 a = some (exo a C none) ∧ D.nx σ H1
section
variable {X : Cx}
theorem psat_sup {body : List Stmt} {f cc cda C : Addr} {fd : FuncData} {oc : Value} {od : Option Addr} {osl : Array (Option Value)} {cl : Value} {cld : Option Addr} {csl : Array (Option Value)} {ar : Arg} {e : Expr} {es : List Expr} {ta : TA} {p0 p1 apos cpos pos : Pos} {pl : Sem Bool}
    (T : ErrC X.K C) (G : CodeF X.K X.prog cda)
    (hf : X.K.lookup f = some ⟨oc, od, .func fd, osl⟩) (hp : (fd.params.posonlyargs ++ fd.params.args).head? = some ar)
    (hcell : X.K.lookup cc = some ⟨cl, cld, .cell (some (.ref C)), csl⟩) (hsuper : X.mg "super" = none)
    (hfu : X.env.func = some f) (hco : X.env.code = .ref cda) (hcl : X.env.cells.lookup ("__class__" : Str) = some cc)
    (hks : X.env.scope.names.lookup ("super" : Str) = some .globalImplicit) (hkc : X.env.scope.names.lookup ("__class__" : Str) = some .free) (hka : X.env.scope.names.lookup ar.arg = some .local)
    (hN : X.N[0]? = some ar.arg) (ha : PA X (e :: es) ta)
    (hev : eval (.Call (.Attribute (.Call (.Name "super" p0) [] [] p1) "__init__" apos) (e :: es) [] cpos) X.env = (do
      let ov ← attributeBase (.Call (.Name "super" p0) [] [] p1) "__init__" X.env (eval (.Call (.Name "super" p0) [] [] p1) X.env)
      standAt apos.atName
      let (f, first) ← holding [ov] (getMethod ov "__init__" pl)
      callWith cpos f first (backTo cpos (starEach (e :: es) X.env)) []))
    (hst : starEach (e :: es) X.env = (false, eval e X.env) :: starEach es X.env) (hpl : (backTo cpos (starEach es X.env)).any (·.1) = false)
    (hsw : swapsWith (.Call (.Attribute (.Call (.Name "super" p0) [] [] p1) "__init__" apos) (e :: es) [] cpos) none pos.line X.env = pure false) (hint : interactive X.env = false) :
    PSat1 X (.func body X.env) (.Expr (.Call (.Attribute (.Call (.Name "super" p0) [] [] p1) "__init__" apos) (e :: es) [] cpos) pos) (tSupI C ta) := by
  refine ⟨fun pins s σ H D I h => ?_⟩
  obtain ⟨a, hσ, ea, q⟩ := h
  obtain ⟨ccl, cdd, vs, ccs, file, tf, hcode, hvs, hfile⟩ := G.at_
  obtain ⟨nm, qn, N, bs, bm, sn, sub, ab, col, dd, k0, k1, k2, k3, k5, hC, hbm⟩ := T.ox.cls
  have hcls : PySem.W.clsIn X.K C = some { name := nm, bases := bs, mro := .ref C :: bm, ns := N, qualname := qn, hasDict := true, slotNames := sn, subclasses := sub, abstract := ab, collection := col, hasDel := false } := by unfold PySem.W.clsIn; rw [hC] <;> rfl
  obtain ⟨t1, ho⟩ := exo_at I.hok ea
  obtain ⟨hh, g, d, t, os⟩ := s
  have XK := I.kIn
  obtain ⟨mb, hb1, hb2⟩ := I.mod.blt
  obtain ⟨m, hn, hl⟩ := id I.loc
  obtain ⟨u0, ru0, lk0⟩ := hl 0 ar.arg (.ref a) hN hσ (.inl hka)
  obtain rfl : u0 = Value.ref a := ru0
  have hv : m ar.arg = some (Value.ref a) := by
    rcases lk0 with ⟨_, e⟩ | ⟨z, _⟩
    · exact e
    · exfalso
      rcases z with z | z
      · have z' : X.env.scope.names.lookup ar.arg = some .cell := z
        rw [hka] at z'; cases z'
      · have z' : X.env.scope.names.lookup ar.arg = some .free := z
        rw [hka] at z'; cases z'
  refine PySem.ks_wpAt_Expr_any (PySem.ks_wpAt_MethodCall ?_ hev) hint hsw
  refine PySem.ks_wpAt_super_base (env := X.env) hks hkc (by decide) hfu (XK _ _ hf) rfl hp hco (XK _ _ hcode) rfl hvs hfile G.noTop ?_
  refine PySem.W.ks_loadName_global I.ok.kind hks (PySem.Calls.loadGlobal_builtin (by rw [I.ok.glob]; exact I.mod.glob.keeps I.bk) hsuper (by rw [I.ok.blt]; exact hb1.keeps I.bk) ((hb2 "super" (by decide)).trans (by decide +kernel)) ⟨rfl, ?_⟩)
  refine wpAny_loadName_free I.ok.kind hkc hcl ⟨_, XK _ _ hcell, rfl⟩ ?_
  refine wpAny_loadName_local I.ok.kind hka hn hv ?_
  refine ks_wpAny_isType_cls (XK _ _ hC) rfl ⟨rfl, ?_⟩
  refine ks_wpAny_call_super (XK _ _ hC) rfl ho rfl (fun c z => nomatch z) (PySem.W.looks_mroIn XK T.me) (fun h' e1 k1' => ?_)
  have I1 : Inv X pins σ H ⟨h', g, d, t, os⟩ := I.kept (t' := t) k1'
  have X1 := I1.kIn
  have ho1 := k1' _ _ ho
  have IA : PySem.W.InstAt h' a _ C none := ⟨ho1, rfl, rfl, trivial⟩
  refine PySem.W.kxs_getMethod PySem.W.kxs_ValueError e1 (PySem.W.looks_opaque X1 T.opq) (l₀ := .ref C :: bm) ?_ rfl X1 ?_ (IA.type.andThen (PySem.W.looks_subIn X1 T.isV)) (PySem.W.ks_ne X1 IA hcls) (by decide) ?_
  · exact fun A Q E s k q => wpAny_bind ((PySem.W.looks_clsIn X1 hcls) A _ E s k (wpAny_pure q))
  · have q1 := T.sup
    unfold PySem.W.ks_superIn at q1
    rw [hcls] at q1
    exact q1
  have I2 : Inv X pins σ H ⟨h'.push (PySem.W.kxs_mw "ValueError.__init__" a), g, d, t + 1, os⟩ := I1.kept (t' := t + 1) (fun b o z => Heap.get?_push_of_some _ z)
  have hu2 : (h'.push (PySem.W.kxs_mw "ValueError.__init__" a)).get? h'.objs.size = some (PySem.W.kxs_mw "ValueError.__init__" a) := Heap.get?_push_size _ rfl
  have hHu : H h'.objs.size = none := I1.hok.fresh (Nat.le_refl _)
  have J2 : Inv X ((h'.objs.size, PySem.W.kxs_mw "ValueError.__init__" a) :: pins) σ H ⟨h'.push (PySem.W.kxs_mw "ValueError.__init__" a), g, d, t + 1, os⟩ := by
    refine I2.pins_of fun p hp => ?_
    rcases List.mem_cons.mp hp with rfl | hp
    · exact ⟨hu2, hHu, Nat.ne_of_gt I1.lt, I1.nofs (Nat.le_refl _), fun v z => nomatch z⟩
    · exact I2.pin p (List.mem_append_right _ hp)
  have key : wpAny (model X.prog X.w) X.A (spliced (backTo cpos (starEach (e :: es) X.env))) (fun vs s₁ => PySem.W.KxsAt "ValueError.__init__" h'.objs.size a s₁.heap ∧ wpAny (model X.prog X.w) X.A (call (.ref h'.objs.size) vs) (fun _ => SP X pins D .next) X.xe s₁) X.xe ⟨h'.push (PySem.W.kxs_mw "ValueError.__init__" a), g, d, t + 1, os⟩ := by
    refine thn (ha.run cpos _ _ σ H _ J2 q) fun us s3 ⟨vs3, H1, I3, rv, hvl, ea1, qn⟩ => ?_
    have hu3 := (I3.pin (h'.objs.size, PySem.W.kxs_mw "ValueError.__init__" a) (List.mem_append_right _ List.mem_cons_self)).1
    refine ⟨hu3, ?_⟩
    have J3 : Inv X pins σ H1 s3 := I3.pins_of fun p hp => I3.pin p (List.mem_append_right _ (List.mem_cons_of_mem _ hp))
    obtain ⟨t2, ho3⟩ := exo_at J3.hok ea1
    have hus : us.length ≤ sizeLine := by
      rw [← Paired.length rv, sizeLine_eq]; omega
    have hC3 := J3.kIn _ _ hC
    obtain ⟨h3, g3, d3, tk3, os3⟩ := s3
    refine wpAny_call (codeAny_of_tree ?_)
    show wpAny _ X.A.in1 (callAny (.ref h'.objs.size) ⟨us, []⟩) _ _ _
    simp only [callAny]
    refine wpAny_bind (wpAny_load hu3 ?_)
    simp only [PySem.W.kxs_mw, show (Value.type "method-wrapper" == Value.type "method" || Value.type "method-wrapper" == Value.type "builtin_function_or_method" || Value.type "method-wrapper" == Value.type "method-wrapper") = true by decide, if_true]
    refine PySem.W.KFB.if_so (by decide) ?_
    refine wpAny_bind (PySem.W.check_bound_init F.excBase_ValueError.toExcCallFacts hC3 ho3 rfl ?_)
    refine wpAny_bind (wpAny_pure (wpAny_pure ?_))
    refine ⟨plainId_quiet F.excBase_ValueError.init.plain _, codeAny_builtin F.excBase_ValueError.initEntry ?_⟩
    refine PySem.W.exc_init_tree (cls := .ref C) (t0 := t2) (dv := none) (c2 := .none) (c3 := .none) (b4 := .bool false) ho3 hus fun h4 k4 hx4 ht4 => ?_
    have J := J3.write (t' := tk3) (x := a) (e := a) (o := exo a C none) (h' := h4) (by rw [ea1]; exact True.intro) (.inl rfl) k4 ⟨_, hx4⟩ (exo_ok hx4)
    have eu : upd H1 a (exo a C none) = H1 := by
      funext b
      by_cases hb : b = a
      · rw [hb, upd_same, ea1]
      · rw [upd_ne hb]
    rw [eu] at J
    exact ⟨σ, H1, J, qn⟩
  rw [hst] at key ⊢
  refine PySem.W.kxs_callWith (i := "ValueError.__init__") (x := a) (by show (false || (backTo cpos (starEach es X.env)).any (·.1)) = false; rw [hpl]; rfl) ?_
  exact PySem.Calls.evalArgs_plain key
end
end My

set_option Elab.async false
set_option linter.all false
set_option maxRecDepth 100000
set_option maxHeartbeats 4000000
/-! ### own errors: made, raised, caught, asked -/
namespace My
open PySem L2 NdefX
/-- __init__ of an error with one field: what it promises -/
def spErr1 (C : Addr) (f : Str) (P : V → Prop) : Sp := fun vs H Q _ => ∃ (a : Addr) (v : V), vs = [.ref a, v] ∧ P v ∧ H a = some (exo a C none) ∧ ∀ dx, H dx = none → dx ≠ a → Q .non (upd (upd H dx (exd dx [(f, v)])) a (exo a C (some dx)))
/-- .. with two fields -/
def spErr2 (C : Addr) (f g : Str) (P : V → V → Prop) : Sp := fun vs H Q _ => ∃ (a : Addr) (v u : V), vs = [.ref a, v, u] ∧ P v u ∧ H a = some (exo a C none) ∧ ∀ dx, H dx = none → dx ≠ a → Q .non (upd (upd (upd H dx (exd dx [(f, v)])) a (exo a C (some dx))) dx (exd dx [(g, u), (f, v)]))
theorem err_kp {H1 H2 : Hp} {a dx : Addr} {fs : List (Str × V)} (na : H1 a = none) (nd : H1 dx = none) (k : ∀ b, b ≠ a → b ≠ dx → H2 b = H1 b) : Kp [] H1 (upd (del H2 a) dx (.xd fs)) := fun b o _ e => by
  have h1 : b ≠ a := ne_of_none e na
  have h2 : b ≠ dx := ne_of_none e nd
  rw [upd_ne h2, del_ne h1, k b h1 h2]
  exact e
theorem err1_made {C : Addr} {f : Str} {P : V → Prop} {v : V} {H1 : Hp} {Q : XK} (hp : P v) (q : ∀ d H', H1 d = none → H' d = some (.xd [(f, v)]) → Kp [] H1 H' → Q (.ref C) (some d) H') :
    ([v] : List V).length ≤ 1000 ∧ ∀ a, H1 a = none → spErr1 C f P (.ref a :: ([v] ++ [])) (upd H1 a (exo a C none)) (fun v H2 => v = .non ∧ ∃ (d : Addr) (fs : List (Str × V)), H2 a = some (exo a C (some d)) ∧ H2 d = some (exd d fs) ∧ H1 d = none ∧ Q (.ref C) (some d) (upd (del H2 a) d (.xd fs))) (fun _ _ _ => False) := by
  refine ⟨by show 1 ≤ 1000; decide, fun a na => ⟨a, v, rfl, hp, upd_same, fun dx ndx hne => ?_⟩⟩
  rw [upd_ne hne] at ndx
  refine ⟨rfl, dx, _, upd_same, by rw [upd_ne hne]; exact upd_same, ndx, q dx _ ndx upd_same (err_kp na ndx fun b h1 h2 => ?_)⟩
  rw [upd_ne h1, upd_ne h2, upd_ne h1]
theorem err2_made {C : Addr} {f g : Str} {P : V → V → Prop} {v u : V} {H1 : Hp} {Q : XK} (hp : P v u) (q : ∀ d H', H1 d = none → H' d = some (.xd [(g, u), (f, v)]) → Kp [] H1 H' → Q (.ref C) (some d) H') :
    ([v, u] : List V).length ≤ 1000 ∧ ∀ a, H1 a = none → spErr2 C f g P (.ref a :: ([v, u] ++ [])) (upd H1 a (exo a C none)) (fun v H2 => v = .non ∧ ∃ (d : Addr) (fs : List (Str × V)), H2 a = some (exo a C (some d)) ∧ H2 d = some (exd d fs) ∧ H1 d = none ∧ Q (.ref C) (some d) (upd (del H2 a) d (.xd fs))) (fun _ _ _ => False) := by
  refine ⟨by show 2 ≤ 1000; decide, fun a na => ⟨a, v, u, rfl, hp, upd_same, fun dx ndx hne => ?_⟩⟩
  rw [upd_ne hne] at ndx
  refine ⟨rfl, dx, _, by rw [upd_ne hne.symm]; exact upd_same, upd_same, ndx, q dx _ ndx upd_same (err_kp na ndx fun b h1 h2 => ?_)⟩
  rw [upd_ne h2, upd_ne h1, upd_ne h2, upd_ne h1]
/-- what the written part says of an error class that is caught and asked -/
structure KitC (K : PySem.W.Frag) (C : Addr) : Prop where
  cl : (PySem.W.clsIn K C).isSome = true
  ga : PySem.W.findIn K (.ref C) "__getattribute__" = some (some (.builtin "BaseException.__getattribute__"))
  gg : PySem.W.findIn K (.ref C) "__getattr__" = some none
  bx : PySem.W.subIn K (.ref C) (.type "BaseException") = some true
  hc : PySem.W.findIn K (.ref C) "__class__" = some (some (.builtin "object.__class__"))
  hn : PySem.W.specialIn K (.builtin "object.__class__") "__get__" = some (some (.builtin "getset_descriptor.__get__"))
  ht : PySem.W.takesIn K (.builtin "object.__class__") = some true
  ob : PySem.W.mroIn K C (.type "object") = some true
/-- isinstance(e, c), e the error that the suite holds -/
def rIsX (K : PySem.W.Frag) (a : Addr) (cls : Value) (d : Option Addr) : List V → Hp → VK → Prop := fun xs H Q => ∃ (c : V) (cv : Value) (b : Bool) (D dd : Addr) (fs : List (Str × V)), xs = [.ref a, c] ∧ (∀ u, RelV c u → u = cv) ∧ cls = .ref D ∧ d = some dd ∧ H dd = some (.xd fs) ∧ KitC K D ∧ PySem.W.kitOne K (.ref D) cv = some b ∧ Q (.bl b) H
/-- .. a tuple of classes that was just laid -/
def rIsXT (K : PySem.W.Frag) (a : Addr) (cls : Value) (d : Option Addr) : List V → Hp → VK → Prop := fun xs H Q => ∃ (tp : Addr) (cs : List V) (us : List Value) (b : Bool) (D dd : Addr) (fs : List (Str × V)), xs = [.ref a, .ref tp] ∧ H tp = some (.tup cs) ∧ Paired ClsV cs us ∧ cls = .ref D ∧ d = some dd ∧ H dd = some (.xd fs) ∧ KitC K D ∧ PySem.W.kitAny K (.ref D) us = some b ∧ Q (.bl b) H
section
variable {X : Cx} {a : Addr} {oe : Obj} {cls : Value} {d : Option Addr} {pn : List (Addr × Obj)}
theorem inst_x {pins : List (Addr × Obj)} {s : Shared} {σ : L2.St} {H : Hp} {D dd : Addr} {fs : List (Str × V)} (I : Inv (X.suite a ((a, oe) :: pn)) pins σ H s) (hz : Zc (.ref D) (some dd) oe) (hf : ∃ vs, oe.data = .fields vs) (e : H dd = some (.xd fs)) : ∃ od, PySem.W.InstAt s.heap a oe D (some od) := by
  obtain ⟨ha, _⟩ := I.pin (a, oe) (List.mem_append_left _ List.mem_cons_self)
  obtain ⟨vs, hv⟩ := hf
  obtain ⟨mA, hns, _⟩ := (show ObjOk X.prog X.w H s.heap dd (.xd fs) from I.hok dd _ e)
  obtain ⟨od, ho, _⟩ := lookIn_ns hns
  exact ⟨od, ha, hz.1, by unfold PySem.W.notCls; rw [hv] <;> rfl, by rw [hz.2]; exact ho⟩
theorem call_isX (hz : Zc cls d oe) (hf : ∃ vs, oe.data = .fields vs) : CallR (X.suite a ((a, oe) :: pn)) (.builtin "isinstance") (rIsX X.K a cls d) := by
  intro pins s σ H xs us Q I r h
  obtain ⟨c, cv, b, D, dd, fs, rfl, hcv, rfl, rfl, ed, T, e, q⟩ := h
  obtain ⟨u1, u2, rfl, r1, r2⟩ := vals2 r
  cases (show u1 = Value.ref a from r1)
  cases hcv _ r2
  obtain ⟨od, J⟩ := inst_x I hz hf ed
  exact PySem.W.kia_one (PySem.W.kitx_exc T.cl T.ga T.gg T.bx T.hc T.hn T.ht T.ob) I.kIn J e (fun z => nomatch z) fun tk => ⟨.bl b, H, I.tok tk, rfl, q⟩
theorem call_isXT (hz : Zc cls d oe) (hf : ∃ vs, oe.data = .fields vs) : CallR (X.suite a ((a, oe) :: pn)) (.builtin "isinstance") (rIsXT X.K a cls d) := by
  intro pins s σ H xs us Q I r h
  obtain ⟨tp, cs, ws, b, D, dd, fs, rfl, hT, k, rfl, rfl, ed, T, e, q⟩ := h
  obtain ⟨u1, u2, rfl, r1, r2⟩ := vals2 r
  cases (show u1 = Value.ref a from r1)
  cases (show u2 = Value.ref tp from r2)
  obtain ⟨od, J⟩ := inst_x I hz hf ed
  obtain ⟨_, its, rv, o, h1, h2, n, h3⟩ := (show ObjOk X.prog X.w H s.heap tp (.tup cs) from I.hok tp _ hT)
  cases ClsV.all k rv
  obtain ⟨oc, od2, dt, sl⟩ := o
  simp only at h2 h3
  subst h2 h3
  exact PySem.W.kia_tup (PySem.W.kitx_exc T.cl T.ga T.gg T.bx T.hc T.hn T.ht T.ob) I.kIn J h1 e (fun z => nomatch z) fun tk => ⟨.bl b, H, I.tok tk, rfl, q⟩
end
end My

set_option Elab.async false
set_option linter.all false
set_option maxRecDepth 100000
set_option maxHeartbeats 4000000
namespace My
open PySem L2 NdefX
def mtop (i j : Nat) : Stmt := match top i with
  | .ClassDef _ _ _ b _ _ _ _ _ _ _ => b.getD j (.Pass ⟨0, 0, 0, 0⟩)
  | _ => .Pass ⟨0, 0, 0, 0⟩
abbrev s_BadStep_init : Stmt := mtop 4 0
theorem sc_BadStep_init : NScope ["self", "name", "at", "__class__"] ["self", "name", "at"] ["__class__"] (defScope s_BadStep_init) := nscope_by (by decide +kernel)
theorem len_app (x y : Str) : (x ++ y).length = x.length + y.length := Array.size_append
def NmAt (v u : V) : Prop := ∃ (z : Str) (i : Int), v = .str z ∧ z.length ≤ 1000 ∧ u = .int i ∧ 0 ≤ i ∧ i ≤ 1000
section
variable {P : Program} {w : World} {K : PySem.W.Frag} {mg : Str → Option Value} {base : Heap} {CX : CXT}
theorem ok_BadStep_init {f cc cda C : Addr} {fd : FuncData} (F : FunX K "__init__" "BadStep.__init__" s_BadStep_init f fd cc cda C) (T : ErrC K C) (G : CodeF K P cda) (hsup : mg "super" = none) (n1 : PySem.W.findIn K (.ref C) "name" = some none) (n2 : PySem.W.findIn K (.ref C) "at" = some none) :
    FnOk P w K mg base CX 1 f fd ["self", "name", "at"] (spErr2 C "name" "at" NmAt) := by
  have F0 := F
  obtain ⟨oc, od, kV, doc, pm, an, ct, osl, hfd, lk, hcd⟩ := F0.ex
  obtain ⟨cl, cld, csl, hcc⟩ := F0.cell
  refine F.ok sc_BadStep_init (fun vs H Q E h => ?_) (fun A outer s H vs Q E hr h => ?_)
  · obtain ⟨a, v, u, rfl, _⟩ := h
    rfl
  · obtain ⟨a, v, u, rfl, hp, ha, q⟩ := h
    refine ⟨_, psat_cons (psat_sup T G lk (by rw [hfd]; rfl) hcc hsup rfl rfl rfl rfl rfl rfl rfl (pa_cons (pe_joined (.cons pe_str (.cons (pe_fmt (pv 2)) (.cons pe_str (.cons (pe_fmt (pv 1)) (.cons pe_str .nil)))))) pa_nil) rfl rfl rfl rfl rfl) (pss_cons (ps_ost (pv 0) (pv 1)) (pss_one (ps_ost (pv 0) (pv 2)))), ?_⟩
    obtain ⟨z, i, rfl, zl, rfl, i0, i1⟩ := hp
    have il : i.natAbs.log2 < 1920 := by
      by_cases e0 : i.natAbs = 0
      · rw [e0]; decide
      rw [Nat.log2_lt e0]
      have h0 : (1000 : Nat) < 2 ^ 1920 := by decide +kernel
      omega
    have tl := PyProof.Rows.int_text_len_1921 il
    have z0 : Str.empty.length = 0 := rfl
    have s5 : (Str.ofString "step ").length = 5 := by decide +kernel
    have s14 : (Str.ofString " of operation ").length = 14 := by decide +kernel
    have s9 : (Str.ofString " is wrong").length = 9 := by decide +kernel
    simp only [tSeq, tIfS, tTest, tOp, tUn, tCB, tCons, tNil, tVar, tC, rI0, rI, rU, rEq, rNe, tRet, tRetN, tAsg, gName, gSub, tBM, tBM0, tNext, tB, tNot, tAnd, tOr, tIf, tCall, tDrop, tBreak, tCont, L2.start, tDGet, sDPut, tTup, tLst, tDNewK, tRevL, rCat, rAppend, rPop, rSetL, tAndV, tOrV, tNotV, tSl, tPart, tNoPart, tM1, gTup, gCons, gNil, cxK, cxnK, List.map_cons, List.map_nil, List.length_cons, List.length_nil, List.replicate, List.cons_append, List.nil_append, List.append_nil, List.set_cons_zero, List.set_cons_succ, List.getElem?_cons_zero, List.getElem?_cons_succ, Option.some.injEq, V.ref.injEq, V.int.injEq, V.str.injEq, V.bl.injEq, V.ty.injEq, exists_eq_left', exists_eq_left, exists_and_left, List.cons.injEq, and_true, true_and, sc_ii, sc_ss, sc_bb, sc_ni, sc_in, sc_is, sc_si, sc_nn, decide_true, decide_false, reduceCtorEq, Bool.false_eq_true, if_true, if_false, ite_true, ite_false, exists_const, eq_self, false_and, and_false, or_false, false_or, exists_false, Evl.rLenS, rSum, wipe, tYes, exists_eq, exists_eq', rIxL, rIxT, rIxS, exists_and_right, gt_iff_lt, not_true_eq_false, not_false_eq_true, Bool.not_true, Bool.not_false, decide_eq_true_eq, Nat.reduceSub, Nat.reduceAdd, List.append_assoc, tChain, tDIn, tDNotIn, sDDel, tAug, ipI, startF, tSupI, tJs, tFmt, tOst]
    have le : ∀ {x : Str}, x.length ≤ 100000 → x.length ≤ sizeLine := fun h => small h
    refine ⟨ha, le ?_, il, le ?_, le ?_, le (by omega), le ?_, le ?_, by decide, ha, C, T.ox, n1, .inl ⟨ha, fun dx nd hne => ⟨C, T.ox, n2, .inr ⟨dx, upd_same, _, by rw [upd_ne hne]; exact upd_same, by simp, q dx nd hne⟩⟩⟩⟩
    all_goals (simp only [len_app, z0, s5, s14, s9]; omega)
end
end My

set_option Elab.async false
set_option linter.all false
set_option maxRecDepth 100000
set_option maxHeartbeats 4000000
namespace My
open PySem L2 NdefX
abbrev s_Operation_init : Stmt := mtop 23 0
theorem sc_Operation_init : FnScope ["self", "name", "steps", "turns", "otherwise", "at", "step", "fault"] ["self", "name", "steps", "turns", "otherwise"] (defScope s_Operation_init) := ⟨rfl, rfl, rfl, by decide +kernel, rfl, by decide +kernel, by decide +kernel⟩
abbrev s_Operation_sections : Stmt := mtop 23 2
theorem sc_Operation_sections : FnScope ["self"] ["self"] (defScope s_Operation_sections) := ⟨rfl, rfl, rfl, by decide +kernel, rfl, by decide +kernel, by decide +kernel⟩
/-- what stands of the class Operation -/
structure OpC (K : PySem.W.Frag) (mg : Str → Option Value) (OP : Addr) : Prop where
  k : mg "Operation" = some (.ref OP)
  cl : Cls K OP
  n1 : NoAttr K OP "name"
  n2 : NoAttr K OP "turns"
  n3 : NoAttr K OP "otherwise"
  n4 : NoAttr K OP "_steps"
/-- what stands of the class BadStep, and its __init__ -/
structure BsC (P : Program) (w : World) (K : PySem.W.Frag) (mg : Str → Option Value) (base : Heap) (BS fB : Addr) (fdB : FuncData) : Prop where
  k : mg "BadStep" = some (.ref BS)
  ox : OexC K BS
  ic : PySem.W.findIn K (.ref BS) "__init__" = some (some (.ref fB))
  ti : PySem.W.typeIn K (.ref fB) = some (.type "function")
  b : Binds K fdB ["self", "name", "at"] []
  G : FnOk P w K mg base (L2.CX P w) 1 fB fdB ["self", "name", "at"] (spErr2 BS "name" "at" NmAt)
structure Bt3 (mg : Str → Option Value) (t1 t2 : Tok) : Prop extends Bt2 mg where
  c_MOST_STEPS : mg "MOST_STEPS" = some (.int 80 t1)
  c_MOST_TURNS : mg "MOST_TURNS" = some (.int 4 t2)
def opFs (name : Str) (l : Addr) : List (Str × V) := [("name", .str name), ("turns", .int 1), ("otherwise", .int 0), ("_steps", .ref l)]
def spOp (K : PySem.W.Frag) (OP BS : Addr) : Sp := fun vs H Q E => ∃ (o dx st : Addr) (name : Str) (xs : List V) (ls : List Lk), vs = [.ref o, .str name, .ref st, .int 1, .int 0] ∧ H o = some (.ins OP dx []) ∧ nameS name = true ∧ name.length ≤ 1000 ∧ SqL K H st xs ∧ o ≠ st ∧ Steps H xs ls ∧ xs ≠ [] ∧ xs.length ≤ 80 ∧
  (IsF ls none → ∀ (l : Addr) (H' : Hp), H l = none → H' o = some (.ins OP dx (opFs name l)) → H' l = some (.lst xs) → Kp [o] H H' → Q .non H') ∧
  (∀ k, IsF ls (some k) → ∀ (d : Addr) (H' : Hp), H d = none → H' d = some (.xd [("at", .int (k : Nat)), ("name", .str name)]) → Kp [] H H' → E (.ref BS) (some d) H')
theorem putF_le {f : Str} {v : V} : ∀ {fs : List (Str × V)} {n : Nat}, fs.length ≤ n → (putF f v fs).length ≤ n + 1
  | [], _, _ => Nat.succ_le_succ (Nat.zero_le _)
  | (g, x) :: r, n + 1, h => by
    unfold putF
    have h' : r.length ≤ n := Nat.le_of_succ_le_succ h
    split
    · show r.length + 1 ≤ _; omega
    · show (putF f v r).length + 1 ≤ _
      have := putF_le (f := f) (v := v) h'
      omega
def InitInv (st1 : L2.St) (H : Hp) (_ : Nat) (σ : L2.St) (H' : Hp) : Prop := ∃ c1 c2, σ = st1 ++ [c1, c2, none] ∧ Kp [] H H'
section
variable {P : Program} {w : World} {K : PySem.W.Frag} {mg : Str → Option Value} {base : Heap} {T_FORMS T_SIGNS : Addr} {es : Array DictEntry} {n : Nat} {tL : Tok}
theorem ok_Operation_init {f : Addr} {fd : FuncData} (F : Fun K "__init__" "Operation.__init__" s_Operation_init f fd) {t1 t2 : Tok} (T : Bt3 mg t1 t2) {OP BS fB : Addr} {fdB : FuncData} (O : OpC K mg OP) (S : BsC P w K mg base BS fB fdB)
    {fa : Addr} {fda : FuncData} (D_is_name : Df K mg "is_name" s_is_name ["value"] fa fda) (G_is_name : FnOk P w K mg base CX0 1 fa fda ["value"] (spD (fun _ => True) nameD)) {fc : Addr} {fdc : FuncData} (D_is_step : Df K mg "is_step" s_is_step ["step"] fc fdc) (G_is_step : FnOk P w K mg base CX0 6 fc fdc ["step"] spStep)
    {fe : Addr} {fde : FuncData} (D_lock_fault : Df K mg "lock_fault" s_lock_fault ["steps"] fe fde) (G_lock_fault : FnOk P w K mg base CX0 1 fe fde ["steps"] (spFault K)) {fg : Addr} {fdg : FuncData} (D_is_below : Df K mg "is_below" s_is_below ["value", "bound"] fg fdg) (G_is_below : FnOk P w K mg base CX0 1 fg fdg ["value", "bound"] spBelow)
    {fh : Addr} {fdh : FuncData} (D_is_number : Df K mg "is_number" s_is_number ["value"] fh fdh) (G_is_number : FnOk P w K mg base CX0 2 fh fdh ["value"] (spD (fun _ => True) (belowD 10))) :
    FnOk P w K mg base (L2.CX P w) 7 f fd ["self", "name", "steps", "turns", "otherwise"] (spOp K OP BS) := by
  refine F.okX sc_Operation_init (fun vs H Q E h => ?_) (fun cdv A outer s H vs Q E hr h => ?_)
  · obtain ⟨o, dx, st, name, xs, ls, rfl, _⟩ := h
    rfl
  · obtain ⟨o, dx, st, name, xs, ls, rfl, ho, hnm, nl, hS, hos, hst, hne, hl, qG, qB⟩ := h
    have hu := hu_of hr
    have E_BadStep := S
    refine ⟨_, (pss_cons (ps_if (pt_not (pt_val (pe_call G_is_name (hr.mono (by decide)) rfl D_is_name.g D_is_name.F.kp D_is_name.b .nil pass0 (pa_cons (pv 1) pa_nil)))) (pss_one ps_never) pss_nil)
      (pss_cons (ps_if (pt_not (pt_truth (pv 2) (by intro _; rfl))) (pss_one (ps_raise rfl (takes_of rfl rfl rfl rfl) (pmk_oex E_BadStep.ox E_BadStep.ic E_BadStep.ti E_BadStep.G (hr.mono (by decide)) E_BadStep.b .nil passL rfl E_BadStep.k (pa_cons (pv 1) (pa_cons pe_int pa_nil))))) pss_nil)
      (pss_cons (ps_if (pt_cmpR op_gt (pe_callB (id := "len") (r := Evl.rLenS K) call_len_seq (by rfl) T.b_len PySem.boot_len (pa_cons (pv 2) pa_nil)) (pe_glob (v := .int 80) rfl T.c_MOST_STEPS ⟨_, rfl⟩) (nomark _)) (pss_one (ps_raise rfl (takes_of rfl rfl rfl rfl) (pmk_oex E_BadStep.ox E_BadStep.ic E_BadStep.ti E_BadStep.G (hr.mono (by decide)) E_BadStep.b .nil passL rfl E_BadStep.k (pa_cons (pv 1) (pa_cons (pe_glob (v := .int 80) rfl T.c_MOST_STEPS ⟨_, rfl⟩) pa_nil))))) pss_nil)
      (pss_cons (ps_for (passes_of rfl) rfl (pi_enum rfl T.b_enumerate (pa_cons (pv 2) pa_nil)) (pg_tup (n := 2) (by rfl) (pgs_cons (pg_name (i := 5) sc_Operation_init.nd rfl (Or.inl rfl)) (pgs_cons (pg_name (i := 6) sc_Operation_init.nd rfl (Or.inl rfl)) pgs_nil))) (pss_one (ps_if (pt_not (pt_val (pe_call G_is_step (hr.mono (by decide)) rfl D_is_step.g D_is_step.F.kp D_is_step.b .nil pass0 (pa_cons (pv 6) pa_nil)))) (pss_one (ps_raise rfl (takes_of rfl rfl rfl rfl) (pmk_oex E_BadStep.ox E_BadStep.ic E_BadStep.ti E_BadStep.G (hr.mono (by decide)) E_BadStep.b .nil passL rfl E_BadStep.k (pa_cons (pv 1) (pa_cons (pv 5) pa_nil))))) pss_nil)))
      (pss_cons (ps_set (i := 7) sc_Operation_init.nd rfl (Or.inl rfl) (pe_call G_lock_fault (hr.mono (by decide)) rfl D_lock_fault.g D_lock_fault.F.kp D_lock_fault.b .nil pass0 (pa_cons (pv 2) pa_nil)))
      (pss_cons (ps_if (pt_cmpR op_notN (pv 7) pe_non (nomark _)) (pss_one (ps_raise rfl (takes_of rfl rfl rfl rfl) (pmk_oex E_BadStep.ox E_BadStep.ic E_BadStep.ti E_BadStep.G (hr.mono (by decide)) E_BadStep.b .nil passL rfl E_BadStep.k (pa_cons (pv 1) (pa_cons (pv 7) pa_nil))))) pss_nil)
      (pss_cons (ps_if (pt_not (pt_val (pe_call G_is_below (hr.mono (by decide)) rfl D_is_below.g D_is_below.F.kp D_is_below.b .nil pass0 (pa_cons (pv 3) (pa_cons (pe_op op_add (pe_glob (v := .int 4) rfl T.c_MOST_TURNS ⟨_, rfl⟩) pe_int) pa_nil))))) (pss_one ps_never) pss_nil)
      (pss_cons (ps_if (pt_not (pt_val (pe_call G_is_number (hr.mono (by decide)) rfl D_is_number.g D_is_number.F.kp D_is_number.b .nil pass0 (pa_cons (pv 4) pa_nil)))) (pss_one ps_never) pss_nil)
      (pss_cons (ps_fld (pv 0) (pv 1) rfl)
      (pss_cons (ps_fld (pv 0) (pv 3) rfl)
      (pss_cons (ps_fld (pv 0) (pv 4) rfl)
      (pss_one (ps_fld (pv 0) (pe_callTy call_list_of (by rfl) T.b_list (by decide +kernel) (pa_cons (pv 2) pa_nil)) rfl))))))))))))), ?_⟩
    have len80 : xs.length ≤ 1000 := by omega
    have e80 : ¬ (80 : Int) < ((xs.length : Nat) : Int) := by omega
    simp only [tSeq, tIfS, tTest, tOp, tUn, tCB, tCons, tNil, tVar, tC, rI0, rI, rU, rEq, rNe, tRet, tRetN, tAsg, gName, gSub, tBM, tBM0, tNext, tB, tNot, tAnd, tOr, tIf, tCall, tDrop, tBreak, tCont, L2.start, tDGet, sDPut, tTup, tLst, tDNewK, tRevL, rCat, rAppend, rPop, rSetL, tAndV, tOrV, tNotV, tSl, tPart, tNoPart, tM1, gTup, gCons, gNil, cxK, cxnK, List.map_cons, List.map_nil, List.length_cons, List.length_nil, List.replicate, List.cons_append, List.nil_append, List.append_nil, List.set_cons_zero, List.set_cons_succ, List.getElem?_cons_zero, List.getElem?_cons_succ, Option.some.injEq, V.ref.injEq, V.int.injEq, V.str.injEq, V.bl.injEq, V.ty.injEq, exists_eq_left', exists_eq_left, exists_and_left, List.cons.injEq, and_true, true_and, sc_ii, sc_ss, sc_bb, sc_ni, sc_in, sc_is, sc_si, sc_nn, decide_true, decide_false, reduceCtorEq, Bool.false_eq_true, if_true, if_false, ite_true, ite_false, exists_const, eq_self, false_and, and_false, or_false, false_or, exists_false, Evl.rLenS, rSum, wipe, tYes, exists_eq, exists_eq', rIxL, rIxT, rIxS, exists_and_right, gt_iff_lt, not_true_eq_false, not_false_eq_true, Bool.not_true, Bool.not_false, decide_eq_true_eq, Nat.reduceSub, Nat.reduceAdd, List.append_assoc, tChain, tDIn, tDNotIn, sDDel, tAug, ipI]
    refine ⟨_, .str name, rfl, .str name, by simp [szD, nl], True.intro, fun H1 k1 => ?_⟩
    have en : nameD (.str name) = true := hnm
    rw [en]
    simp only [tSeq, tIfS, tTest, tOp, tUn, tCB, tCons, tNil, tVar, tC, rI0, rI, rU, rEq, rNe, tRet, tRetN, tAsg, gName, gSub, tBM, tBM0, tNext, tB, tNot, tAnd, tOr, tIf, tCall, tDrop, tBreak, tCont, L2.start, tDGet, sDPut, tTup, tLst, tDNewK, tRevL, rCat, rAppend, rPop, rSetL, tAndV, tOrV, tNotV, tSl, tPart, tNoPart, tM1, gTup, gCons, gNil, cxK, cxnK, List.map_cons, List.map_nil, List.length_cons, List.length_nil, List.replicate, List.cons_append, List.nil_append, List.append_nil, List.set_cons_zero, List.set_cons_succ, List.getElem?_cons_zero, List.getElem?_cons_succ, Option.some.injEq, V.ref.injEq, V.int.injEq, V.str.injEq, V.bl.injEq, V.ty.injEq, exists_eq_left', exists_eq_left, exists_and_left, List.cons.injEq, and_true, true_and, sc_ii, sc_ss, sc_bb, sc_ni, sc_in, sc_is, sc_si, sc_nn, decide_true, decide_false, reduceCtorEq, Bool.false_eq_true, if_true, if_false, ite_true, ite_false, exists_const, eq_self, false_and, and_false, or_false, false_or, exists_false, Evl.rLenS, rSum, wipe, tYes, exists_eq, exists_eq', rIxL, rIxT, rIxS, exists_and_right, gt_iff_lt, not_true_eq_false, not_false_eq_true, Bool.not_true, Bool.not_false, decide_eq_true_eq, Nat.reduceSub, Nat.reduceAdd, List.append_assoc, tChain, tDIn, tDNotIn, sDDel, tAug, ipI]
    have S1 : SqL K H1 st xs := k1.ls not0 hS
    refine ⟨true, .inl ⟨xs, S1, ?_⟩, ?_⟩
    · cases xs with
      | nil => exact absurd rfl hne
      | cons a b => rfl
    simp only [tSeq, tIfS, tTest, tOp, tUn, tCB, tCons, tNil, tVar, tC, rI0, rI, rU, rEq, rNe, tRet, tRetN, tAsg, gName, gSub, tBM, tBM0, tNext, tB, tNot, tAnd, tOr, tIf, tCall, tDrop, tBreak, tCont, L2.start, tDGet, sDPut, tTup, tLst, tDNewK, tRevL, rCat, rAppend, rPop, rSetL, tAndV, tOrV, tNotV, tSl, tPart, tNoPart, tM1, gTup, gCons, gNil, cxK, cxnK, List.map_cons, List.map_nil, List.length_cons, List.length_nil, List.replicate, List.cons_append, List.nil_append, List.append_nil, List.set_cons_zero, List.set_cons_succ, List.getElem?_cons_zero, List.getElem?_cons_succ, Option.some.injEq, V.ref.injEq, V.int.injEq, V.str.injEq, V.bl.injEq, V.ty.injEq, exists_eq_left', exists_eq_left, exists_and_left, List.cons.injEq, and_true, true_and, sc_ii, sc_ss, sc_bb, sc_ni, sc_in, sc_is, sc_si, sc_nn, decide_true, decide_false, reduceCtorEq, Bool.false_eq_true, if_true, if_false, ite_true, ite_false, exists_const, eq_self, false_and, and_false, or_false, false_or, exists_false, Evl.rLenS, rSum, wipe, tYes, exists_eq, exists_eq', rIxL, rIxT, rIxS, exists_and_right, gt_iff_lt, not_true_eq_false, not_false_eq_true, Bool.not_true, Bool.not_false, decide_eq_true_eq, Nat.reduceSub, Nat.reduceAdd, List.append_assoc, tChain, tDIn, tDNotIn, sDDel, tAug, ipI]
    refine ⟨xs, .inl S1, ?_⟩
    rw [if_neg e80]
    refine ⟨.ref st, rfl, st, xs, rfl, S1, ?_⟩
    refine for_it (walk_enum (K := K) (a := st) (xs := xs)) (InitInv [some (.ref o), some (.str name), some (.ref st), some (.int 1), some (.int 0)] H) ⟨_, _, rfl, k1⟩ (fun i σ H2 _ h => by
      obtain ⟨_, _, _, kp⟩ := h
      exact kp.ls not0 hS) ?_ ?_
    · rintro i x σ H2 H3 hi ⟨c1, c2, rfl, kp⟩ ⟨t, u, v, rfl, nt, rfl, e1, e2⟩
      cases e1
      obtain ⟨l, el, sv⟩ := hst.2 i v e2
      have k2 : Kp [] H2 (upd H2 t (.tup [.int (i : Nat), v])) := Kp.new nt
      have k02 := kp.trans k2
      obtain ⟨b, x, ps, ds, rs, rfl, eb, hd, ⟨sz, _, _⟩, hf, sg, dl, sd, _⟩ := (sv.kp k02).ex
      simp only [tSeq, tIfS, tTest, tOp, tUn, tCB, tCons, tNil, tVar, tC, rI0, rI, rU, rEq, rNe, tRet, tRetN, tAsg, gName, gSub, tBM, tBM0, tNext, tB, tNot, tAnd, tOr, tIf, tCall, tDrop, tBreak, tCont, L2.start, tDGet, sDPut, tTup, tLst, tDNewK, tRevL, rCat, rAppend, rPop, rSetL, tAndV, tOrV, tNotV, tSl, tPart, tNoPart, tM1, gTup, gCons, gNil, cxK, cxnK, List.map_cons, List.map_nil, List.length_cons, List.length_nil, List.replicate, List.cons_append, List.nil_append, List.append_nil, List.set_cons_zero, List.set_cons_succ, List.getElem?_cons_zero, List.getElem?_cons_succ, Option.some.injEq, V.ref.injEq, V.int.injEq, V.str.injEq, V.bl.injEq, V.ty.injEq, exists_eq_left', exists_eq_left, exists_and_left, List.cons.injEq, and_true, true_and, sc_ii, sc_ss, sc_bb, sc_ni, sc_in, sc_is, sc_si, sc_nn, decide_true, decide_false, reduceCtorEq, Bool.false_eq_true, if_true, if_false, ite_true, ite_false, exists_const, eq_self, false_and, and_false, or_false, false_or, exists_false, Evl.rLenS, rSum, wipe, tYes, exists_eq, exists_eq', rIxL, rIxT, rIxS, exists_and_right, gt_iff_lt, not_true_eq_false, not_false_eq_true, Bool.not_true, Bool.not_false, decide_eq_true_eq, Nat.reduceSub, Nat.reduceAdd, List.append_assoc, tChain, tDIn, tDNotIn, sDDel, tAug, ipI]
      refine ⟨_, sq_t upd_same, rfl, _, _, rfl, _, _, rfl, rfl, ?_⟩
      refine ⟨b, x, ps, ds, rs, rfl, eb, hd, sz, hf, sg, dl, fun H4 k4 => ?_⟩
      rw [sd]
      simp only [tSeq, tIfS, tTest, tOp, tUn, tCB, tCons, tNil, tVar, tC, rI0, rI, rU, rEq, rNe, tRet, tRetN, tAsg, gName, gSub, tBM, tBM0, tNext, tB, tNot, tAnd, tOr, tIf, tCall, tDrop, tBreak, tCont, L2.start, tDGet, sDPut, tTup, tLst, tDNewK, tRevL, rCat, rAppend, rPop, rSetL, tAndV, tOrV, tNotV, tSl, tPart, tNoPart, tM1, gTup, gCons, gNil, cxK, cxnK, List.map_cons, List.map_nil, List.length_cons, List.length_nil, List.replicate, List.cons_append, List.nil_append, List.append_nil, List.set_cons_zero, List.set_cons_succ, List.getElem?_cons_zero, List.getElem?_cons_succ, Option.some.injEq, V.ref.injEq, V.int.injEq, V.str.injEq, V.bl.injEq, V.ty.injEq, exists_eq_left', exists_eq_left, exists_and_left, List.cons.injEq, and_true, true_and, sc_ii, sc_ss, sc_bb, sc_ni, sc_in, sc_is, sc_si, sc_nn, decide_true, decide_false, reduceCtorEq, Bool.false_eq_true, if_true, if_false, ite_true, ite_false, exists_const, eq_self, false_and, and_false, or_false, false_or, exists_false, Evl.rLenS, rSum, wipe, tYes, exists_eq, exists_eq', rIxL, rIxT, rIxS, exists_and_right, gt_iff_lt, not_true_eq_false, not_false_eq_true, Bool.not_true, Bool.not_false, decide_eq_true_eq, Nat.reduceSub, Nat.reduceAdd, List.append_assoc, tChain, tDIn, tDNotIn, sDDel, tAug, ipI]
      exact ⟨_, _, rfl, k02.trans k4⟩
    · rintro σ H2 ⟨c1, c2, rfl, kp⟩
      simp only [tSeq, tIfS, tTest, tOp, tUn, tCB, tCons, tNil, tVar, tC, rI0, rI, rU, rEq, rNe, tRet, tRetN, tAsg, gName, gSub, tBM, tBM0, tNext, tB, tNot, tAnd, tOr, tIf, tCall, tDrop, tBreak, tCont, L2.start, tDGet, sDPut, tTup, tLst, tDNewK, tRevL, rCat, rAppend, rPop, rSetL, tAndV, tOrV, tNotV, tSl, tPart, tNoPart, tM1, gTup, gCons, gNil, cxK, cxnK, List.map_cons, List.map_nil, List.length_cons, List.length_nil, List.replicate, List.cons_append, List.nil_append, List.append_nil, List.set_cons_zero, List.set_cons_succ, List.getElem?_cons_zero, List.getElem?_cons_succ, Option.some.injEq, V.ref.injEq, V.int.injEq, V.str.injEq, V.bl.injEq, V.ty.injEq, exists_eq_left', exists_eq_left, exists_and_left, List.cons.injEq, and_true, true_and, sc_ii, sc_ss, sc_bb, sc_ni, sc_in, sc_is, sc_si, sc_nn, decide_true, decide_false, reduceCtorEq, Bool.false_eq_true, if_true, if_false, ite_true, ite_false, exists_const, eq_self, false_and, and_false, or_false, false_or, exists_false, Evl.rLenS, rSum, wipe, tYes, exists_eq, exists_eq', rIxL, rIxT, rIxS, exists_and_right, gt_iff_lt, not_true_eq_false, not_false_eq_true, Bool.not_true, Bool.not_false, decide_eq_true_eq, Nat.reduceSub, Nat.reduceAdd, List.append_assoc, tChain, tDIn, tDNotIn, sDDel, tAug, ipI]
      refine ⟨st, xs, ls, rfl, kp.ls not0 hS, hst.kp kp, len80, fun r H3 hF k3 => ?_⟩
      have kp3 := kp.trans k3
      cases r with
      | some k =>
        have hk : k ≤ 1000 := by
          have := hst.1
          cases hF <;> omega
        simp only [tSeq, tIfS, tTest, tOp, tUn, tCB, tCons, tNil, tVar, tC, rI0, rI, rU, rEq, rNe, tRet, tRetN, tAsg, gName, gSub, tBM, tBM0, tNext, tB, tNot, tAnd, tOr, tIf, tCall, tDrop, tBreak, tCont, L2.start, tDGet, sDPut, tTup, tLst, tDNewK, tRevL, rCat, rAppend, rPop, rSetL, tAndV, tOrV, tNotV, tSl, tPart, tNoPart, tM1, gTup, gCons, gNil, cxK, cxnK, List.map_cons, List.map_nil, List.length_cons, List.length_nil, List.replicate, List.cons_append, List.nil_append, List.append_nil, List.set_cons_zero, List.set_cons_succ, List.getElem?_cons_zero, List.getElem?_cons_succ, Option.some.injEq, V.ref.injEq, V.int.injEq, V.str.injEq, V.bl.injEq, V.ty.injEq, exists_eq_left', exists_eq_left, exists_and_left, List.cons.injEq, and_true, true_and, sc_ii, sc_ss, sc_bb, sc_ni, sc_in, sc_is, sc_si, sc_nn, decide_true, decide_false, reduceCtorEq, Bool.false_eq_true, if_true, if_false, ite_true, ite_false, exists_const, eq_self, false_and, and_false, or_false, false_or, exists_false, Evl.rLenS, rSum, wipe, tYes, exists_eq, exists_eq', rIxL, rIxT, rIxS, exists_and_right, gt_iff_lt, not_true_eq_false, not_false_eq_true, Bool.not_true, Bool.not_false, decide_eq_true_eq, Nat.reduceSub, Nat.reduceAdd, List.append_assoc, tChain, tDIn, tDNotIn, sDDel, tAug, ipI, optV]
        refine ⟨.str name, rfl, .int k, rfl, err2_made (P := NmAt) ⟨name, k, rfl, nl, rfl, by omega, by omega⟩ fun d H4 nd hd k4 => ?_⟩
        exact qB k hF d H4 (kp3.free0 nd) hd (kp3.trans k4)
      | none =>
        simp only [tSeq, tIfS, tTest, tOp, tUn, tCB, tCons, tNil, tVar, tC, rI0, rI, rU, rEq, rNe, tRet, tRetN, tAsg, gName, gSub, tBM, tBM0, tNext, tB, tNot, tAnd, tOr, tIf, tCall, tDrop, tBreak, tCont, L2.start, tDGet, sDPut, tTup, tLst, tDNewK, tRevL, rCat, rAppend, rPop, rSetL, tAndV, tOrV, tNotV, tSl, tPart, tNoPart, tM1, gTup, gCons, gNil, cxK, cxnK, List.map_cons, List.map_nil, List.length_cons, List.length_nil, List.replicate, List.cons_append, List.nil_append, List.append_nil, List.set_cons_zero, List.set_cons_succ, List.getElem?_cons_zero, List.getElem?_cons_succ, Option.some.injEq, V.ref.injEq, V.int.injEq, V.str.injEq, V.bl.injEq, V.ty.injEq, exists_eq_left', exists_eq_left, exists_and_left, List.cons.injEq, and_true, true_and, sc_ii, sc_ss, sc_bb, sc_ni, sc_in, sc_is, sc_si, sc_nn, decide_true, decide_false, reduceCtorEq, Bool.false_eq_true, if_true, if_false, ite_true, ite_false, exists_const, eq_self, false_and, and_false, or_false, false_or, exists_false, Evl.rLenS, rSum, wipe, tYes, exists_eq, exists_eq', rIxL, rIxT, rIxS, exists_and_right, gt_iff_lt, not_true_eq_false, not_false_eq_true, Bool.not_true, Bool.not_false, decide_eq_true_eq, Nat.reduceSub, Nat.reduceAdd, List.append_assoc, tChain, tDIn, tDNotIn, sDDel, tAug, ipI, optV]
        refine ⟨_, .int 1, 5, rfl, .int 1, ?_⟩
        have b1 : (decide ((0 : Int) ≤ 1) && decide ((1 : Int) < 5)) = true := by decide
        have b0 : (decide ((0 : Int) ≤ 0) && decide ((0 : Int) < 10)) = true := by decide
        simp only [tSeq, tIfS, tTest, tOp, tUn, tCB, tCons, tNil, tVar, tC, rI0, rI, rU, rEq, rNe, tRet, tRetN, tAsg, gName, gSub, tBM, tBM0, tNext, tB, tNot, tAnd, tOr, tIf, tCall, tDrop, tBreak, tCont, L2.start, tDGet, sDPut, tTup, tLst, tDNewK, tRevL, rCat, rAppend, rPop, rSetL, tAndV, tOrV, tNotV, tSl, tPart, tNoPart, tM1, gTup, gCons, gNil, cxK, cxnK, List.map_cons, List.map_nil, List.length_cons, List.length_nil, List.replicate, List.cons_append, List.nil_append, List.append_nil, List.set_cons_zero, List.set_cons_succ, List.getElem?_cons_zero, List.getElem?_cons_succ, Option.some.injEq, V.ref.injEq, V.int.injEq, V.str.injEq, V.bl.injEq, V.ty.injEq, exists_eq_left', exists_eq_left, exists_and_left, List.cons.injEq, and_true, true_and, sc_ii, sc_ss, sc_bb, sc_ni, sc_in, sc_is, sc_si, sc_nn, decide_true, decide_false, reduceCtorEq, Bool.false_eq_true, if_true, if_false, ite_true, ite_false, exists_const, eq_self, false_and, and_false, or_false, false_or, exists_false, Evl.rLenS, rSum, wipe, tYes, exists_eq, exists_eq', rIxL, rIxT, rIxS, exists_and_right, gt_iff_lt, not_true_eq_false, not_false_eq_true, Bool.not_true, Bool.not_false, decide_eq_true_eq, Nat.reduceSub, Nat.reduceAdd, List.append_assoc, tChain, tDIn, tDNotIn, sDDel, tAug, ipI, belowD, b1]
        refine ⟨_, .int 0, rfl, .int 0, rfl, True.intro, fun H4 k4 => ?_⟩
        simp only [tSeq, tIfS, tTest, tOp, tUn, tCB, tCons, tNil, tVar, tC, rI0, rI, rU, rEq, rNe, tRet, tRetN, tAsg, gName, gSub, tBM, tBM0, tNext, tB, tNot, tAnd, tOr, tIf, tCall, tDrop, tBreak, tCont, L2.start, tDGet, sDPut, tTup, tLst, tDNewK, tRevL, rCat, rAppend, rPop, rSetL, tAndV, tOrV, tNotV, tSl, tPart, tNoPart, tM1, gTup, gCons, gNil, cxK, cxnK, List.map_cons, List.map_nil, List.length_cons, List.length_nil, List.replicate, List.cons_append, List.nil_append, List.append_nil, List.set_cons_zero, List.set_cons_succ, List.getElem?_cons_zero, List.getElem?_cons_succ, Option.some.injEq, V.ref.injEq, V.int.injEq, V.str.injEq, V.bl.injEq, V.ty.injEq, exists_eq_left', exists_eq_left, exists_and_left, List.cons.injEq, and_true, true_and, sc_ii, sc_ss, sc_bb, sc_ni, sc_in, sc_is, sc_si, sc_nn, decide_true, decide_false, reduceCtorEq, Bool.false_eq_true, if_true, if_false, ite_true, ite_false, exists_const, eq_self, false_and, and_false, or_false, false_or, exists_false, Evl.rLenS, rSum, wipe, tYes, exists_eq, exists_eq', rIxL, rIxT, rIxS, exists_and_right, gt_iff_lt, not_true_eq_false, not_false_eq_true, Bool.not_true, Bool.not_false, decide_eq_true_eq, Nat.reduceSub, Nat.reduceAdd, List.append_assoc, tChain, tDIn, tDNotIn, sDDel, tAug, ipI, belowD, b0]
        have kp4 := kp3.trans k4
        have kO : Kp [o] H H4 := kp4.of0
        have ho4 := kp4 _ _ not0 ho
        have S4 := kp4.ls not0 hS
        refine ⟨.str name, rfl, .ref o, rfl, o, OP, dx, [], rfl, ho4, O.cl, O.n1, by decide, ?_⟩
        refine ⟨.int 1, rfl, .ref o, rfl, o, OP, dx, _, rfl, upd_same, O.cl, O.n2, Nat.lt_of_le_of_lt (putF_le (Nat.le_refl 0)) (by decide), ?_⟩
        refine ⟨.int 0, rfl, .ref o, rfl, o, OP, dx, _, rfl, upd_same, O.cl, O.n3, Nat.lt_of_le_of_lt (putF_le (putF_le (Nat.le_refl 0))) (by decide), ?_⟩
        generalize hG : upd (upd (upd H4 o (.ins OP dx (putF "name" (.str name) []))) o (.ins OP dx (putF "turns" (.int 1) (putF "name" (.str name) [])))) o (.ins OP dx (putF "otherwise" (.int 0) (putF "turns" (.int 1) (putF "name" (.str name) [])))) = G
        have hGo : G o = some (.ins OP dx (putF "otherwise" (.int 0) (putF "turns" (.int 1) (putF "name" (.str name) [])))) := by rw [← hG]; exact upd_same
        have kG : Kp [o] H G := by
          rw [← hG]
          exact ((kO.put List.mem_cons_self).put List.mem_cons_self).put List.mem_cons_self
        have SG : SqL K G st xs := kG.ls (not1 hos.symm) hS
        refine ⟨.ref st, rfl, st, rfl, xs, .inl SG, fun l nl => ?_⟩
        have ol : o ≠ l := ne_of_none hGo nl
        have nlH : H l = none := by
          cases e : H l with
          | none => rfl
          | some u =>
            have z := kG l u (not1 ol.symm) e
            rw [nl] at z; cases z
        refine ⟨.ref o, rfl, o, OP, dx, _, rfl, by rw [upd_ne ol]; exact hGo, O.cl, O.n4, Nat.lt_of_le_of_lt (putF_le (putF_le (putF_le (Nat.le_refl 0)))) (by decide), ?_⟩
        refine qG hF l _ nlH upd_same ?_ ((kG.trans (Kp.new nl).of0).put List.mem_cons_self)
        rw [upd_ne ol.symm]
        exact upd_same

def spSecM (K : PySem.W.Frag) (OP : Addr) : Sp := fun vs H Q _ => ∃ (o dx l : Addr) (name : Str) (xs : List V) (ls : List Lk), vs = [.ref o] ∧ H o = some (.ins OP dx (opFs name l)) ∧ H l = some (.lst xs) ∧ Steps H xs ls ∧ xs.length ≤ 1000 ∧ IsF ls none ∧
  ∀ (p : Addr) (us : List V) (ps : List (Nat × Nat)) (b : Nat) (H' : Hp), H p = none → H' p = some (.lst us) → Prs H' us ps → ps.length ≤ 1000 → Secs ls ps b → b ≤ ls.length → (∀ j, b ≤ j → j < ls.length → ls[j]? = some none) → Kp [] H H' → Q (.ref p) H'
theorem ok_Operation_sections {f : Addr} {fd : FuncData} (F : Fun K "sections" "Operation.sections" s_Operation_sections f fd) {OP : Addr} (O : OpC K mg OP) {fe : Addr} {fde : FuncData} (D_sections_of : Df K mg "sections_of" s_sections_of ["steps"] fe fde) (G_sections_of : FnOk P w K mg base CX0 1 fe fde ["steps"] (spSecs K)) :
    FnOk P w K mg base CX0 2 f fd ["self"] (spSecM K OP) := by
  refine F.ok sc_Operation_sections (fun vs H Q E h => ?_) (fun cdv A outer s H vs Q E hr h => ?_)
  · obtain ⟨o, dx, st, name, xs, ls, rfl, _⟩ := h
    rfl
  · obtain ⟨o, dx, l, name, xs, ls, rfl, ho, hl, hst, hn, hF, q⟩ := h
    refine ⟨_, (pss_one (ps_ret (pe_call G_sections_of (hr.mono (by decide)) rfl D_sections_of.g D_sections_of.F.kp D_sections_of.b .nil pass0 (pa_cons (pe_fld (pv 0) rfl) pa_nil)))), ?_⟩
    simp only [tSeq, tIfS, tTest, tOp, tUn, tCB, tCons, tNil, tVar, tC, rI0, rI, rU, rEq, rNe, tRet, tRetN, tAsg, gName, gSub, tBM, tBM0, tNext, tB, tNot, tAnd, tOr, tIf, tCall, tDrop, tBreak, tCont, L2.start, tDGet, sDPut, tTup, tLst, tDNewK, tRevL, rCat, rAppend, rPop, rSetL, tAndV, tOrV, tNotV, tSl, tPart, tNoPart, tM1, gTup, gCons, gNil, cxK, cxnK, List.map_cons, List.map_nil, List.length_cons, List.length_nil, List.replicate, List.cons_append, List.nil_append, List.append_nil, List.set_cons_zero, List.set_cons_succ, List.getElem?_cons_zero, List.getElem?_cons_succ, Option.some.injEq, V.ref.injEq, V.int.injEq, V.str.injEq, V.bl.injEq, V.ty.injEq, exists_eq_left', exists_eq_left, exists_and_left, List.cons.injEq, and_true, true_and, sc_ii, sc_ss, sc_bb, sc_ni, sc_in, sc_is, sc_si, sc_nn, decide_true, decide_false, reduceCtorEq, Bool.false_eq_true, if_true, if_false, ite_true, ite_false, exists_const, eq_self, false_and, and_false, or_false, false_or, exists_false, Evl.rLenS, rSum, wipe, tYes, exists_eq, exists_eq', rIxL, rIxT, rIxS, exists_and_right, gt_iff_lt, not_true_eq_false, not_false_eq_true, Bool.not_true, Bool.not_false, decide_eq_true_eq, Nat.reduceSub, Nat.reduceAdd, List.append_assoc, tChain, tDIn, tDNotIn, sDDel, tAug, ipI]
    refine ⟨.ref o, rfl, o, OP, dx, _, .ref l, rfl, ho, O.cl, O.n4, rfl, ?_⟩
    exact ⟨l, xs, ls, rfl, sq_l hl, hst, hn, hF, q⟩
end
end My

set_option Elab.async false
set_option linter.all false
set_option maxRecDepth 100000
set_option maxHeartbeats 4000000
namespace My
open PySem L2
abbrev s_law_row : Stmt := top 25
theorem sc_law_row : FnScope ["_law_script", "_law_seed", "_law_row_here", "_law_cell", "_law_left", "_law_k"] ["_law_script"] (defScope s_law_row) := ⟨rfl, rfl, rfl, by decide +kernel, rfl, by decide +kernel, by decide +kernel⟩
abbrev s_law_draw : Stmt := top 26
theorem sc_law_draw : FnScope ["_law_row_here", "_law_many_here"] ["_law_row_here", "_law_many_here"] (defScope s_law_draw) := ⟨rfl, rfl, rfl, by decide +kernel, rfl, by decide +kernel, by decide +kernel⟩
abbrev s_law_word : Stmt := top 27
theorem sc_law_word : FnScope ["_law_row_here", "_law_size_here", "_law_letters", "_law_k"] ["_law_row_here", "_law_size_here"] (defScope s_law_word) := ⟨rfl, rfl, rfl, by decide +kernel, rfl, by decide +kernel, by decide +kernel⟩
abbrev s_law_names : Stmt := top 28
theorem sc_law_names : FnScope ["_law_row_here", "_law_many_here", "_law_letters", "_law_place", "_law_alike", "_law_start", "_law_head", "_law_tail", "_law_names_here", "_law_k"] ["_law_row_here", "_law_many_here"] (defScope s_law_names) := ⟨rfl, rfl, rfl, by decide +kernel, rfl, by decide +kernel, by decide +kernel⟩
/-! ### the row of drawn numbers -/
def RowAt (H : Hp) (a : Addr) : Prop := ∃ ns : List Int, H a = some (.lst (ns.map V.int)) ∧ ns ≠ [] ∧ ∀ x ∈ ns, 0 ≤ x ∧ x < 65521
structure Bt0 (mg : Str → Option Value) : Prop where
  b_len : mg "len" = none
  b_int : mg "int" = none
  b_abs : mg "abs" = none
  b_range : mg "range" = none
def spDraw : Sp := fun vs H Q _ => ∃ (a : Addr) (m : Int), vs = [.ref a, .int m] ∧ RowAt H a ∧ 0 < m ∧ ∀ (r : Int) (H' : Hp), 0 ≤ r → r < m → RowAt H' a → Kp [a] H H' → Q (.int r) H'
section
variable {P : Program} {w : World} {K : PySem.W.Frag} {mg : Str → Option Value} {base : Heap}
theorem ok_law_draw {f : Addr} {fd : FuncData} (D : Df K mg "_law_draw" s_law_draw ["_law_row_here", "_law_many_here"] f fd) (T : Bt0 mg) : FnOk P w K mg base CX0 1 f fd ["_law_row_here", "_law_many_here"] spDraw := by
  refine D.F.ok sc_law_draw (fun vs H Q E h => ?_) (fun cdv A outer s H vs Q E hr h => ?_)
  · obtain ⟨a, m, rfl, _⟩ := h
    rfl
  · obtain ⟨a, m, rfl, ⟨ns, hH, hne, hb⟩, hm, q⟩ := h
    have hu := hu_of hr
    refine ⟨_, (pss_cons (ps_if (pt_cmpR op_gt (pe_callB (id := "len") (r := Evl.rLenS K) call_len_seq (by rfl) T.b_len PySem.boot_len (pa_cons (pv 0) pa_nil)) pe_int (nomark _)) (pss_one (ps_ret (pe_op op_mod (pe_callTy (T := "int") call_int1 (by rfl) T.b_int (by decide +kernel) (pa_cons (pe_bm0 PySem.F.plainAttrs_list PySem.F.slot_list_pop PySem.F.type_list_pop mt_pop (pv 0)) pa_nil)) (pv 1)))) pss_nil)
      (pss_cons (ps_asg (pe_op op_mod (pe_callTy (T := "int") call_int1 (by rfl) T.b_int (by decide +kernel) (pa_cons (pe_op op_mul (pe_ix (r := rIxL K) ix_list (pv 0) pe_int (fun _ _ => rfl)) pe_int) pa_nil)) pe_int) (pg_sub (pv 0) pe_int set_list))
      (pss_one (ps_ret (pe_op op_mod (pe_callTy (T := "int") call_int1 (by rfl) T.b_int (by decide +kernel) (pa_cons (pe_op op_fdiv (pe_ix (r := rIxL K) ix_list (pv 0) pe_int (fun _ _ => rfl)) pe_int) pa_nil)) (pv 1)))))), ?_⟩
    simp only [tSeq, tIfS, tTest, tOp, tUn, tCB, tCons, tNil, tVar, tC, rI0, rI, rU, rEq, rNe, tRet, tRetN, tAsg, gName, gSub, tBM, tBM0, tNext, tB, tNot, tAnd, tOr, tIf, tCall, tDrop, tBreak, tCont, L2.start, tDGet, sDPut, tTup, tLst, tDNewK, tRevL, rCat, rAppend, rPop, rSetL, tAndV, tOrV, tNotV, tSl, tPart, tNoPart, tM1, gTup, gCons, gNil, cxK, cxnK, List.map_cons, List.map_nil, List.length_cons, List.length_nil, List.replicate, List.cons_append, List.nil_append, List.append_nil, List.set_cons_zero, List.set_cons_succ, List.getElem?_cons_zero, List.getElem?_cons_succ, Option.some.injEq, V.ref.injEq, V.int.injEq, V.str.injEq, V.bl.injEq, V.ty.injEq, exists_eq_left', exists_eq_left, exists_and_left, List.cons.injEq, and_true, true_and, sc_ii, sc_ss, sc_bb, sc_ni, sc_in, sc_is, sc_si, sc_nn, decide_true, decide_false, reduceCtorEq, Bool.false_eq_true, if_true, if_false, ite_true, ite_false, exists_const, eq_self, false_and, and_false, or_false, false_or, exists_false, Evl.rLenS, rSum, wipe, tYes, exists_eq, exists_eq', rIxL, rIxT, rIxS, exists_and_right, gt_iff_lt, not_true_eq_false, not_false_eq_true, Bool.not_true, Bool.not_false, decide_eq_true_eq, Nat.reduceSub, Nat.reduceAdd, List.append_assoc, tChain, tDIn, tDNotIn, sDDel, tAug, ipI]
    refine ⟨_, .inl (sq_l hH), ?_⟩
    refine ite2 (fun h1 => ?_) (fun h1 => ?_)
    · rw [List.length_map] at h1
      have e : (ns.map V.int)[(ns.map V.int).length - 1]? = some (V.int (ns.getLast hne)) := by
        rw [List.length_map, List.getElem?_map, ← List.getLast?_eq_getElem?, List.getLast?_eq_some_getLast hne]
        rfl
      refine ⟨.inl ⟨rfl, _, sq_l hH⟩, _, hH, _, e, ?_⟩
      simp only [tSeq, tIfS, tTest, tOp, tUn, tCB, tCons, tNil, tVar, tC, rI0, rI, rU, rEq, rNe, tRet, tRetN, tAsg, gName, gSub, tBM, tBM0, tNext, tB, tNot, tAnd, tOr, tIf, tCall, tDrop, tBreak, tCont, L2.start, tDGet, sDPut, tTup, tLst, tDNewK, tRevL, rCat, rAppend, rPop, rSetL, tAndV, tOrV, tNotV, tSl, tPart, tNoPart, tM1, gTup, gCons, gNil, cxK, cxnK, List.map_cons, List.map_nil, List.length_cons, List.length_nil, List.replicate, List.cons_append, List.nil_append, List.append_nil, List.set_cons_zero, List.set_cons_succ, List.getElem?_cons_zero, List.getElem?_cons_succ, Option.some.injEq, V.ref.injEq, V.int.injEq, V.str.injEq, V.bl.injEq, V.ty.injEq, exists_eq_left', exists_eq_left, exists_and_left, List.cons.injEq, and_true, true_and, sc_ii, sc_ss, sc_bb, sc_ni, sc_in, sc_is, sc_si, sc_nn, decide_true, decide_false, reduceCtorEq, Bool.false_eq_true, if_true, if_false, ite_true, ite_false, exists_const, eq_self, false_and, and_false, or_false, false_or, exists_false, Evl.rLenS, rSum, wipe, tYes, exists_eq, exists_eq', rIxL, rIxT, rIxS, exists_and_right, gt_iff_lt, not_true_eq_false, not_false_eq_true, Bool.not_true, Bool.not_false, decide_eq_true_eq, Nat.reduceSub, Nat.reduceAdd, List.append_assoc, tChain, tDIn, tDNotIn, sDDel, tAug, ipI]
      refine ⟨hm, q _ _ (Int.emod_nonneg _ (by omega)) (Int.emod_lt_of_pos _ hm) ⟨ns.dropLast, ?_, ?_, fun x hx => hb x (List.dropLast_subset _ hx)⟩ ((Kp.refl _ _).put (List.mem_singleton.mpr rfl))⟩
      · rw [upd_same, List.map_dropLast]
      · intro z
        have := congrArg List.length z
        rw [List.length_dropLast, List.length_nil] at this
        omega
    · obtain ⟨n0, r, rfl⟩ : ∃ n0 r, ns = n0 :: r := by
        cases ns with
        | nil => exact absurd rfl hne
        | cons a b => exact ⟨a, b, rfl⟩
      have b0 := hb n0 (List.mem_cons_self)
      refine ⟨_, sq_l hH, _, atI_of (by decide) rfl, ?_⟩
      simp only [tSeq, tIfS, tTest, tOp, tUn, tCB, tCons, tNil, tVar, tC, rI0, rI, rU, rEq, rNe, tRet, tRetN, tAsg, gName, gSub, tBM, tBM0, tNext, tB, tNot, tAnd, tOr, tIf, tCall, tDrop, tBreak, tCont, L2.start, tDGet, sDPut, tTup, tLst, tDNewK, tRevL, rCat, rAppend, rPop, rSetL, tAndV, tOrV, tNotV, tSl, tPart, tNoPart, tM1, gTup, gCons, gNil, cxK, cxnK, List.map_cons, List.map_nil, List.length_cons, List.length_nil, List.replicate, List.cons_append, List.nil_append, List.append_nil, List.set_cons_zero, List.set_cons_succ, List.getElem?_cons_zero, List.getElem?_cons_succ, Option.some.injEq, V.ref.injEq, V.int.injEq, V.str.injEq, V.bl.injEq, V.ty.injEq, exists_eq_left', exists_eq_left, exists_and_left, List.cons.injEq, and_true, true_and, sc_ii, sc_ss, sc_bb, sc_ni, sc_in, sc_is, sc_si, sc_nn, decide_true, decide_false, reduceCtorEq, Bool.false_eq_true, if_true, if_false, ite_true, ite_false, exists_const, eq_self, false_and, and_false, or_false, false_or, exists_false, Evl.rLenS, rSum, wipe, tYes, exists_eq, exists_eq', rIxL, rIxT, rIxS, exists_and_right, gt_iff_lt, not_true_eq_false, not_false_eq_true, Bool.not_true, Bool.not_false, decide_eq_true_eq, Nat.reduceSub, Nat.reduceAdd, List.append_assoc, tChain, tDIn, tDNotIn, sDDel, tAug, ipI]
      refine ⟨.inl ⟨by omega, by omega⟩, by decide, _, hH, 0, ixN_of (by decide) (by rw [List.length_map, List.length_cons]; omega), ?_⟩
      refine ⟨_, sq_l upd_same, _, atI_of (by decide) rfl, ?_⟩
      simp only [tSeq, tIfS, tTest, tOp, tUn, tCB, tCons, tNil, tVar, tC, rI0, rI, rU, rEq, rNe, tRet, tRetN, tAsg, gName, gSub, tBM, tBM0, tNext, tB, tNot, tAnd, tOr, tIf, tCall, tDrop, tBreak, tCont, L2.start, tDGet, sDPut, tTup, tLst, tDNewK, tRevL, rCat, rAppend, rPop, rSetL, tAndV, tOrV, tNotV, tSl, tPart, tNoPart, tM1, gTup, gCons, gNil, cxK, cxnK, List.map_cons, List.map_nil, List.length_cons, List.length_nil, List.replicate, List.cons_append, List.nil_append, List.append_nil, List.set_cons_zero, List.set_cons_succ, List.getElem?_cons_zero, List.getElem?_cons_succ, Option.some.injEq, V.ref.injEq, V.int.injEq, V.str.injEq, V.bl.injEq, V.ty.injEq, exists_eq_left', exists_eq_left, exists_and_left, List.cons.injEq, and_true, true_and, sc_ii, sc_ss, sc_bb, sc_ni, sc_in, sc_is, sc_si, sc_nn, decide_true, decide_false, reduceCtorEq, Bool.false_eq_true, if_true, if_false, ite_true, ite_false, exists_const, eq_self, false_and, and_false, or_false, false_or, exists_false, Evl.rLenS, rSum, wipe, tYes, exists_eq, exists_eq', rIxL, rIxT, rIxS, exists_and_right, gt_iff_lt, not_true_eq_false, not_false_eq_true, Bool.not_true, Bool.not_false, decide_eq_true_eq, Nat.reduceSub, Nat.reduceAdd, List.append_assoc, tChain, tDIn, tDNotIn, sDDel, tAug, ipI]
      refine ⟨⟨by decide, by decide⟩, hm, q _ _ (Int.emod_nonneg _ (by omega)) (Int.emod_lt_of_pos _ hm) ⟨n0 * 131 % 65521 :: r, upd_same, by simp, fun x hx => ?_⟩ ((Kp.refl _ _).put (List.mem_singleton.mpr rfl))⟩
      rcases List.mem_cons.mp hx with rfl | hx
      · omega
      · exact hb x (List.mem_cons_of_mem _ hx)

/-! ### the row -/
def spRow (K : PySem.W.Frag) : Sp := fun vs H Q _ => ∃ (a : Addr) (ns : List Int), vs = [.ref a] ∧ SqL K H a (ns.map V.int) ∧ ns.length ≤ 63 ∧ ∀ (p : Addr) (H' : Hp), H p = none → RowAt H' p → Kp [] H H' → Q (.ref p) H'
/-- ahead of the j-th number of the script -/
def RowInv (H : Hp) (a o : Addr) (ns : List Int) (j : Nat) (σ : L2.St) (H2 : Hp) : Prop := ∃ (seed : Int) (rs : List Int) (c l k : Option V), σ = [some (.ref a), some (.int seed), some (.ref o), c, l, k] ∧ 0 ≤ seed ∧ seed ≤ 498897 ∧ (j ≠ 0 ∨ ns = [] → seed < 65521) ∧
  H2 o = some (.lst (rs.map V.int)) ∧ (∀ x ∈ rs, 0 ≤ x ∧ x < 65521) ∧ rs.length ≤ 61 * j ∧ Kp [] H H2
/-- within it, ahead of the i-th figure -/
def RowIn (H : Hp) (a o : Addr) (j : Nat) (seed : Int) (u : V) (i : Nat) (σ : L2.St) (H2 : Hp) : Prop := ∃ (rs : List Int) (l : Int) (k : Option V), σ = [some (.ref a), some (.int seed), some (.ref o), some u, some (.int l), k] ∧ 0 ≤ l ∧
  H2 o = some (.lst (rs.map V.int)) ∧ (∀ x ∈ rs, 0 ≤ x ∧ x < 65521) ∧ rs.length ≤ 61 * j + 1 + i ∧ Kp [] H H2
theorem mem_grown {rs : List Int} {v : Int} {m : Int} (hm : 0 < m) (hb : m ≤ 65521) (h : ∀ x ∈ rs, 0 ≤ x ∧ x < 65521) : ∀ x ∈ rs ++ [v % m], 0 ≤ x ∧ x < 65521 := by
  intro x hx
  rcases List.mem_append.mp hx with hx | hx
  · exact h x hx
  · rw [List.mem_singleton.mp hx]
    have h1 := Int.emod_nonneg v (show m ≠ 0 by omega)
    have h2 := Int.emod_lt_of_pos v hm
    omega
theorem ok_law_row {f : Addr} {fd : FuncData} (D : Df K mg "_law_row" s_law_row ["_law_script"] f fd) (T : Bt0 mg) : FnOk P w K mg base CX0 1 f fd ["_law_script"] (spRow K) := by
  refine D.F.ok sc_law_row (fun vs H Q E h => ?_) (fun cdv A outer s H vs Q E hr h => ?_)
  · obtain ⟨a, m, rfl, _⟩ := h
    rfl
  · obtain ⟨a, ns, rfl, hS, hl, q⟩ := h
    have hu := hu_of hr
    refine ⟨_, (pss_cons (ps_set (i := 1) sc_law_row.nd rfl (Or.inl rfl) (pe_op op_mul (pe_callB (id := "len") (r := Evl.rLenS K) call_len_seq (by rfl) T.b_len PySem.boot_len (pa_cons (pv 0) pa_nil)) pe_int))
      (pss_cons (ps_set (i := 2) sc_law_row.nd rfl (Or.inl rfl) (pe_lst pa_nil))
      (pss_cons (ps_for PassesOwn.never rfl (pi_list (pv 0)) (pg_name (i := 3) sc_law_row.nd rfl (Or.inl rfl)) (pss_cons (ps_set (i := 4) sc_law_row.nd rfl (Or.inl rfl) (pe_callB (id := "abs") call_abs (by rfl) T.b_abs (by decide +kernel) (pa_cons (pe_callTy (T := "int") call_int1 (by rfl) T.b_int (by decide +kernel) (pa_cons (pv 3) pa_nil)) pa_nil)))
      (pss_cons (ps_set (i := 1) sc_law_row.nd rfl (Or.inl rfl) (pe_op op_mod (pe_callTy (T := "int") call_int1 (by rfl) T.b_int (by decide +kernel) (pa_cons (pe_op op_add (pe_op op_mul (pv 1) pe_int) (pv 4)) pa_nil)) pe_int))
      (pss_cons (ps_if (pt_cmpR op_lt (pv 4) (pe_op op_pow pe_int pe_int) (nomark _)) (pss_cons (ps_expr (pe_bm PySem.F.plainAttrs_list PySem.F.slot_list_append PySem.F.type_list_append mt_append (pv 2) (pa_cons (pe_op op_mod (pe_callTy (T := "int") call_int1 (by rfl) T.b_int (by decide +kernel) (pa_cons (pv 4) pa_nil)) pe_int) pa_nil)))
      (pss_one (ps_set (i := 4) sc_law_row.nd rfl (Or.inl rfl) pe_int))) pss_nil)
      (pss_one (ps_for PassesOwn.never rfl (pi_range1 rfl T.b_range (pa_cons pe_int pa_nil)) (pg_name (i := 5) sc_law_row.nd rfl (Or.inl rfl)) (pss_cons (ps_if (pt_cmpR op_eq (pv 4) pe_int (nomark _)) (pss_one ps_break) pss_nil)
      (pss_cons (ps_expr (pe_bm PySem.F.plainAttrs_list PySem.F.slot_list_append PySem.F.type_list_append mt_append (pv 2) (pa_cons (pe_op op_mod (pe_callTy (T := "int") call_int1 (by rfl) T.b_int (by decide +kernel) (pa_cons (pv 4) pa_nil)) pe_int) pa_nil)))
      (pss_one (ps_set (i := 4) sc_law_row.nd rfl (Or.inl rfl) (pe_op op_fdiv (pv 4) pe_int)))))))))))
      (pss_one (ps_ret (pe_op op_cat (pe_lst (pa_cons (pv 1) pa_nil)) (pe_revL (pv 2)))))))), ?_⟩
    simp only [tSeq, tIfS, tTest, tOp, tUn, tCB, tCons, tNil, tVar, tC, rI0, rI, rU, rEq, rNe, tRet, tRetN, tAsg, gName, gSub, tBM, tBM0, tNext, tB, tNot, tAnd, tOr, tIf, tCall, tDrop, tBreak, tCont, L2.start, tDGet, sDPut, tTup, tLst, tDNewK, tRevL, rCat, rAppend, rPop, rSetL, tAndV, tOrV, tNotV, tSl, tPart, tNoPart, tM1, gTup, gCons, gNil, cxK, cxnK, List.map_cons, List.map_nil, List.length_cons, List.length_nil, List.replicate, List.cons_append, List.nil_append, List.append_nil, List.set_cons_zero, List.set_cons_succ, List.getElem?_cons_zero, List.getElem?_cons_succ, Option.some.injEq, V.ref.injEq, V.int.injEq, V.str.injEq, V.bl.injEq, V.ty.injEq, exists_eq_left', exists_eq_left, exists_and_left, List.cons.injEq, and_true, true_and, sc_ii, sc_ss, sc_bb, sc_ni, sc_in, sc_is, sc_si, sc_nn, decide_true, decide_false, reduceCtorEq, Bool.false_eq_true, if_true, if_false, ite_true, ite_false, exists_const, eq_self, false_and, and_false, or_false, false_or, exists_false, Evl.rLenS, rSum, wipe, tYes, exists_eq, exists_eq', rIxL, rIxT, rIxS, exists_and_right, gt_iff_lt, not_true_eq_false, not_false_eq_true, Bool.not_true, Bool.not_false, decide_eq_true_eq, Nat.reduceSub, Nat.reduceAdd, List.append_assoc, tChain, tDIn, tDNotIn, sDDel, tAug, ipI]
    refine ⟨_, .inl hS, ?_⟩
    rw [List.length_map]
    refine ⟨.inr ⟨by decide, by decide⟩, small (by decide), fun o no => ?_⟩
    refine forL (K := K) (a := a) (xs := ns.map V.int) (RowInv H a o ns) rfl ((Kp.new no).ls not0 hS) ?_ ?_ ?_ ?_
    · refine ⟨_, [], none, none, none, rfl, by omega, by omega, ?_, upd_same, (fun x hx => nomatch hx), Nat.zero_le _, Kp.new no⟩
      rintro (h | h)
      · exact absurd rfl h
      · rw [h]; decide
    · rintro j σ H2 _ ⟨seed, rs, c, l, k, rfl, _, _, _, _, _, _, kp⟩
      exact kp.ls not0 hS
    · rintro j x σ H2 hx ⟨seed, rs, c, l, k, rfl, s0, s1, s2, ho, hrs, hln, kp⟩
      obtain ⟨u, hu2, rfl⟩ : ∃ u, ns[j]? = some u ∧ x = V.int u := by
        rw [List.getElem?_map] at hx
        cases e : ns[j]? with
        | none => rw [e] at hx; cases hx
        | some u => rw [e] at hx; exact ⟨u, rfl, (Option.some.inj hx).symm⟩
      have hj : j < 63 := by
        have := (List.getElem?_eq_some_iff.mp hu2).1
        omega
      simp only [tSeq, tIfS, tTest, tOp, tUn, tCB, tCons, tNil, tVar, tC, rI0, rI, rU, rEq, rNe, tRet, tRetN, tAsg, gName, gSub, tBM, tBM0, tNext, tB, tNot, tAnd, tOr, tIf, tCall, tDrop, tBreak, tCont, L2.start, tDGet, sDPut, tTup, tLst, tDNewK, tRevL, rCat, rAppend, rPop, rSetL, tAndV, tOrV, tNotV, tSl, tPart, tNoPart, tM1, gTup, gCons, gNil, cxK, cxnK, List.map_cons, List.map_nil, List.length_cons, List.length_nil, List.replicate, List.cons_append, List.nil_append, List.append_nil, List.set_cons_zero, List.set_cons_succ, List.getElem?_cons_zero, List.getElem?_cons_succ, Option.some.injEq, V.ref.injEq, V.int.injEq, V.str.injEq, V.bl.injEq, V.ty.injEq, exists_eq_left', exists_eq_left, exists_and_left, List.cons.injEq, and_true, true_and, sc_ii, sc_ss, sc_bb, sc_ni, sc_in, sc_is, sc_si, sc_nn, decide_true, decide_false, reduceCtorEq, Bool.false_eq_true, if_true, if_false, ite_true, ite_false, exists_const, eq_self, false_and, and_false, or_false, false_or, exists_false, Evl.rLenS, rSum, wipe, tYes, exists_eq, exists_eq', rIxL, rIxT, rIxS, exists_and_right, gt_iff_lt, not_true_eq_false, not_false_eq_true, Bool.not_true, Bool.not_false, decide_eq_true_eq, Nat.reduceSub, Nat.reduceAdd, List.append_assoc, tChain, tDIn, tDNotIn, sDDel, tAug, ipI]
      generalize hv : (if u < 0 then -u else u) = v
      have v0 : 0 ≤ v := by
        rw [← hv]; split <;> omega
      refine ⟨.inl ⟨by omega, by omega⟩, by decide, ⟨by decide, by decide, by decide⟩, ?_⟩
      -- the loop over the figures, from any state of the kind
      have loop : ∀ (tb : TS) (D : Ends), (∀ i σ H4, i < 60 → RowIn H a o j ((seed * 31 + v) % 65521) (.int u) i σ H4 → (gName 5) (.int (0 + i)) σ H4 fun σ2 H2 => tb { D with nx := RowIn H a o j ((seed * 31 + v) % 65521) (.int u) (i + 1), ct := RowIn H a o j ((seed * 31 + v) % 65521) (.int u) (i + 1), bk := D.nx } σ2 H2) →
          (∀ i, i ≤ 60 → ∀ σ H4, RowIn H a o j ((seed * 31 + v) % 65521) (.int u) i σ H4 → D.nx σ H4) → ∀ σ H3, RowIn H a o j ((seed * 31 + v) % 65521) (.int u) 0 σ H3 → tFor (iRng1 (tCons (tC (V.int 60)) tNil)) (gName 5) tb D σ H3 := by
        intro tb D turn after σ H3 h3
        exact ⟨60, rfl, by decide, by decide, for_range (lo := 0) (n := 60) (RowIn H a o j ((seed * 31 + v) % 65521) (.int u)) h3 turn (after 60 (Nat.le_refl _))⟩
      have fin : ∀ i, i ≤ 60 → ∀ σ H4, RowIn H a o j ((seed * 31 + v) % 65521) (.int u) i σ H4 → RowInv H a o ns (j + 1) σ H4 := by
        rintro i hi σ H4 ⟨rs3, l3, k3, rfl, z0, z1, z2, z3, z4⟩
        have e0 : 0 ≤ (seed * 31 + v) % 65521 := by omega
        have e1 : (seed * 31 + v) % 65521 < 65521 := by omega
        exact ⟨_, rs3, _, _, _, rfl, e0, by omega, fun _ => e1, z1, z2, by omega, z4⟩
      have turn : ∀ (i : Nat) (σ : L2.St) (H4 : Hp) (Bk : L2.St → Hp → Prop) (Rt : VK), i < 60 → (∀ i, i ≤ 60 → ∀ σ H4, RowIn H a o j ((seed * 31 + v) % 65521) (.int u) i σ H4 → Bk σ H4) → RowIn H a o j ((seed * 31 + v) % 65521) (.int u) i σ H4 → (gName 5) (.int (0 + i)) σ H4 fun σ2 H2 =>
          (tSeq (tIfS (tTest (tOp rEq (tVar 4) (tC (V.int 0)))) tBreak tNext)
            (tSeq (tDrop (tBM K "list" rAppend (tVar 2) (tCons (tOp (rI (fun x j => 0 < j) fun i j => V.int (i % j)) (tCB (fun xs H Q => (∃ i, xs = [V.int i] ∧ Q (V.int i) H) ∨ ∃ k, xs = [V.bl k] ∧ Q (V.int (if k = true then 1 else 0)) H) (tCons (tVar 4) tNil)) (tC (V.int 1000))) tNil)))
              (tAsg (tOp (rI CDiv fun i j => V.int (i / j)) (tVar 4) (tC (V.int 1000))) (gName 4)))) { nx := RowIn H a o j ((seed * 31 + v) % 65521) (.int u) (i + 1), ct := RowIn H a o j ((seed * 31 + v) % 65521) (.int u) (i + 1), bk := Bk, rt := Rt } σ2 H2 := by
        rintro i σ H4 Bk Rt hi brk ⟨rs3, l3, k3, rfl, z0, z1, z2, z3, z4⟩
        simp only [tSeq, tIfS, tTest, tOp, tUn, tCB, tCons, tNil, tVar, tC, rI0, rI, rU, rEq, rNe, tRet, tRetN, tAsg, gName, gSub, tBM, tBM0, tNext, tB, tNot, tAnd, tOr, tIf, tCall, tDrop, tBreak, tCont, L2.start, tDGet, sDPut, tTup, tLst, tDNewK, tRevL, rCat, rAppend, rPop, rSetL, tAndV, tOrV, tNotV, tSl, tPart, tNoPart, tM1, gTup, gCons, gNil, cxK, cxnK, List.map_cons, List.map_nil, List.length_cons, List.length_nil, List.replicate, List.cons_append, List.nil_append, List.append_nil, List.set_cons_zero, List.set_cons_succ, List.getElem?_cons_zero, List.getElem?_cons_succ, Option.some.injEq, V.ref.injEq, V.int.injEq, V.str.injEq, V.bl.injEq, V.ty.injEq, exists_eq_left', exists_eq_left, exists_and_left, List.cons.injEq, and_true, true_and, sc_ii, sc_ss, sc_bb, sc_ni, sc_in, sc_is, sc_si, sc_nn, decide_true, decide_false, reduceCtorEq, Bool.false_eq_true, if_true, if_false, ite_true, ite_false, exists_const, eq_self, false_and, and_false, or_false, false_or, exists_false, Evl.rLenS, rSum, wipe, tYes, exists_eq, exists_eq', rIxL, rIxT, rIxS, exists_and_right, gt_iff_lt, not_true_eq_false, not_false_eq_true, Bool.not_true, Bool.not_false, decide_eq_true_eq, Nat.reduceSub, Nat.reduceAdd, List.append_assoc, tChain, tDIn, tDNotIn, sDDel, tAug, ipI]
        refine ite2 (fun hz => ?_) (fun hz => ?_)
        · exact brk i (by omega) _ _ ⟨rs3, l3, _, rfl, z0, z1, z2, z3, z4⟩
        · refine ⟨.inl ⟨rfl, _, sq_l z1⟩, by decide, _, z1, by rw [List.length_map]; exact smallL (by omega), ⟨by decide, by decide⟩, rs3 ++ [l3 % 1000], l3 / 1000, _, rfl, by omega, ?_, mem_grown (by decide) (by decide) z2, by rw [List.length_append, List.length_singleton]; omega, z4.wr no⟩
          rw [upd_same, List.map_append]; rfl
      refine ite2 (fun hlt => ?_) (fun hlt => ?_)
      · refine ⟨.inl ⟨rfl, _, sq_l ho⟩, by decide, _, ho, by rw [List.length_map]; exact smallL (by omega), ?_⟩
        refine loop _ _ (fun i σ H4 hi h4 => turn i σ H4 _ _ hi fin h4) fin _ _ ⟨rs ++ [v % 1000], 0, k, rfl, by decide, ?_, mem_grown (by decide) (by decide) hrs, by rw [List.length_append, List.length_singleton]; omega, kp.wr no⟩
        rw [upd_same, List.map_append]; rfl
      · exact loop _ _ (fun i σ H4 hi h4 => turn i σ H4 _ _ hi fin h4) fin _ _ ⟨rs, v, k, rfl, v0, ho, hrs, by omega, kp⟩
    · rintro σ H2 ⟨seed, rs, c, l, k, rfl, s0, s1, s2, ho, hrs, hln, kp⟩
      rw [List.length_map] at s2 hln
      have s3 : seed < 65521 := s2 (by
        cases ns with
        | nil => exact .inr rfl
        | cons x r => exact .inl (by simp))
      simp only [tSeq, tIfS, tTest, tOp, tUn, tCB, tCons, tNil, tVar, tC, rI0, rI, rU, rEq, rNe, tRet, tRetN, tAsg, gName, gSub, tBM, tBM0, tNext, tB, tNot, tAnd, tOr, tIf, tCall, tDrop, tBreak, tCont, L2.start, tDGet, sDPut, tTup, tLst, tDNewK, tRevL, rCat, rAppend, rPop, rSetL, tAndV, tOrV, tNotV, tSl, tPart, tNoPart, tM1, gTup, gCons, gNil, cxK, cxnK, List.map_cons, List.map_nil, List.length_cons, List.length_nil, List.replicate, List.cons_append, List.nil_append, List.append_nil, List.set_cons_zero, List.set_cons_succ, List.getElem?_cons_zero, List.getElem?_cons_succ, Option.some.injEq, V.ref.injEq, V.int.injEq, V.str.injEq, V.bl.injEq, V.ty.injEq, exists_eq_left', exists_eq_left, exists_and_left, List.cons.injEq, and_true, true_and, sc_ii, sc_ss, sc_bb, sc_ni, sc_in, sc_is, sc_si, sc_nn, decide_true, decide_false, reduceCtorEq, Bool.false_eq_true, if_true, if_false, ite_true, ite_false, exists_const, eq_self, false_and, and_false, or_false, false_or, exists_false, Evl.rLenS, rSum, wipe, tYes, exists_eq, exists_eq', rIxL, rIxT, rIxS, exists_and_right, gt_iff_lt, not_true_eq_false, not_false_eq_true, Bool.not_true, Bool.not_false, decide_eq_true_eq, Nat.reduceSub, Nat.reduceAdd, List.append_assoc, tChain, tDIn, tDNotIn, sDDel, tAug, ipI]
      refine ⟨small (by decide), fun o1 n1 => ?_⟩
      have e1 : upd H2 o1 (.lst [.int seed]) o = some (.lst (rs.map V.int)) := by
        rw [upd_ne (ne_of_none ho n1)]; exact ho
      refine ⟨_, sq_l e1, fun o2 n2 => ?_⟩
      have no1 : o1 ≠ o2 := fun z => by rw [← z, upd_same] at n2; cases n2
      refine ⟨_, (by rw [upd_ne no1]; exact upd_same), _, upd_same, small (by simp; omega), fun o3 n3 => ?_⟩
      have k2 := ((kp.trans (Kp.new n1)).trans (Kp.new n2)).trans (Kp.new (o := .lst ([V.int seed] ++ (rs.map V.int).reverse)) n3)
      refine q o3 _ (((kp.trans (Kp.new n1)).trans (Kp.new n2)).free0 n3) ⟨seed :: rs.reverse, ?_, by simp, ?_⟩ k2
      · rw [upd_same]; simp
      · intro x hx
        rcases List.mem_cons.mp hx with rfl | hx
        · exact ⟨s0, s3⟩
        · exact hrs x (List.mem_reverse.mp hx)

/-! ### words -/
/-- letters from a to z alone -/
def Low (z : Str) : Prop := ∀ c ∈ z.cps.toList, 97 ≤ c ∧ c ≤ 122
theorem lets_at : ∀ i : Nat, i < 26 → lets.cps.toList[i]? = some (97 + i) := by decide +kernel
theorem lets_len : lets.length = 26 := by decide +kernel
theorem low1 {c : Nat} (h : 97 ≤ c ∧ c ≤ 122) : Low ⟨#[c]⟩ := fun d hd => by
  have e : d = c := by simpa using hd
  rw [e]; exact h
theorem low_app {x y : Str} (hx : Low x) (hy : Low y) : Low (x ++ y) := fun c hc => by
  have e : (x ++ y).cps.toList = x.cps.toList ++ y.cps.toList := Array.toList_append
  rw [e] at hc
  rcases List.mem_append.mp hc with h | h
  · exact hx c h
  · exact hy c h
theorem join_low : ∀ zs : List Str, (∀ z ∈ zs, z.length = 1 ∧ Low z) → (Str.join Str.empty zs).length = zs.length ∧ Low (Str.join Str.empty zs)
  | [], _ => ⟨rfl, fun c hc => nomatch hc⟩
  | [x], h => ⟨(h x (List.mem_singleton.mpr rfl)).1, (h x (List.mem_singleton.mpr rfl)).2⟩
  | x :: y :: r, h => by
    have ih := join_low (y :: r) fun z hz => h z (List.mem_cons_of_mem _ hz)
    have hx := h x (List.mem_cons_self)
    have e : Str.join Str.empty (x :: y :: r) = x ++ Str.empty ++ Str.join Str.empty (y :: r) := rfl
    have h0 : Low Str.empty := fun c hc => nomatch hc
    rw [e]
    refine ⟨?_, low_app (low_app hx.2 h0) ih.2⟩
    rw [len_app, len_app, ih.1, hx.1, List.length_cons]
    show 1 + 0 + (y :: r).length = (y :: r).length + 1
    omega
theorem RowAt.ne {H : Hp} {a b : Addr} (h : RowAt H a) (hb : H b = none) : a ≠ b := by
  obtain ⟨ns, e, _⟩ := h
  exact ne_of_none e hb
theorem RowAt.some {H : Hp} {a : Addr} (h : RowAt H a) : ∃ o, H a = some o := by
  obtain ⟨ns, e, _⟩ := h
  exact ⟨_, e⟩
theorem RowAt.up {H : Hp} {a p : Addr} {o : HO} (h : RowAt H a) (hp : a ≠ p) : RowAt (upd H p o) a := by
  obtain ⟨ns, e, r⟩ := h
  exact ⟨ns, by rw [upd_ne hp]; exact e, r⟩
def spWord : Sp := fun vs H Q _ => ∃ (a : Addr) (m : Int), vs = [.ref a, .int m] ∧ RowAt H a ∧ 0 ≤ m ∧ m ≤ 100 ∧ ∀ (z : Str) (H' : Hp), z.length = m.toNat → Low z → RowAt H' a → Kp [a] H H' → Q (.str z) H'
def WordInv (H : Hp) (a d : Addr) (i : Nat) (H' : Hp) : Prop := ∃ zs : List Str, H' d = some (.lst (zs.map V.str)) ∧ zs.length = i ∧ (∀ z ∈ zs, z.length = 1 ∧ Low z) ∧ RowAt H' a ∧ Kp [a] H H'
theorem ok_law_word {f : Addr} {fd : FuncData} (D : Df K mg "_law_word" s_law_word ["_law_row_here", "_law_size_here"] f fd) (T : Bt0 mg) {fr : Addr} {fdr : FuncData} (D_law_draw : Df K mg "_law_draw" s_law_draw ["_law_row_here", "_law_many_here"] fr fdr) (G_law_draw : FnOk P w K mg base CX0 1 fr fdr ["_law_row_here", "_law_many_here"] spDraw) :
    FnOk P w K mg base CX0 2 f fd ["_law_row_here", "_law_size_here"] spWord := by
  refine D.F.ok sc_law_word (fun vs H Q E h => ?_) (fun cdv A outer s H vs Q E hr h => ?_)
  · obtain ⟨a, m, rfl, _⟩ := h
    rfl
  · obtain ⟨a, m, rfl, R, m0, m1, q⟩ := h
    have hu := hu_of hr
    refine ⟨_, (pss_cons (ps_set (i := 2) sc_law_word.nd rfl (Or.inr rfl) pe_str)
      (pss_one (ps_ret (pe_join pe_str (pe_lc (own := [("_law_k", 3)]) (g := (gName 3)) (tt := tYes) rfl sc_law_word.nd (pi_range1 rfl T.b_range (pa_cons (pv 1) pa_nil)) (blkOk_by (N := ["_law_row_here", "_law_size_here", "_law_letters", "_law_k"]) (sc := defScope s_law_word) (by decide +kernel)) (fun _ _ _ _ _ => (pg_name (i := 3) sc_law_word.nd rfl (Or.inl rfl))) (fun _ _ _ _ _ => pts_nil) (fun _ _ _ _ _ => (pe_ix ix_str (pv 2) (pe_call G_law_draw (hr.mono (by decide)) rfl D_law_draw.g D_law_draw.F.kp D_law_draw.b .nil pass0 (pa_cons (pv 0) (pa_cons pe_int pa_nil))) (fun _ _ => rfl)))))))), ?_⟩
    simp only [tSeq, tIfS, tTest, tOp, tUn, tCB, tCons, tNil, tVar, tC, rI0, rI, rU, rEq, rNe, tRet, tRetN, tAsg, gName, gSub, tBM, tBM0, tNext, tB, tNot, tAnd, tOr, tIf, tCall, tDrop, tBreak, tCont, L2.start, tDGet, sDPut, tTup, tLst, tDNewK, tRevL, rCat, rAppend, rPop, rSetL, tAndV, tOrV, tNotV, tSl, tPart, tNoPart, tM1, gTup, gCons, gNil, cxK, cxnK, List.map_cons, List.map_nil, List.length_cons, List.length_nil, List.replicate, List.cons_append, List.nil_append, List.append_nil, List.set_cons_zero, List.set_cons_succ, List.getElem?_cons_zero, List.getElem?_cons_succ, Option.some.injEq, V.ref.injEq, V.int.injEq, V.str.injEq, V.bl.injEq, V.ty.injEq, exists_eq_left', exists_eq_left, exists_and_left, List.cons.injEq, and_true, true_and, sc_ii, sc_ss, sc_bb, sc_ni, sc_in, sc_is, sc_si, sc_nn, decide_true, decide_false, reduceCtorEq, Bool.false_eq_true, if_true, if_false, ite_true, ite_false, exists_const, eq_self, false_and, and_false, or_false, false_or, exists_false, Evl.rLenS, rSum, wipe, tYes, exists_eq, exists_eq', rIxL, rIxT, rIxS, exists_and_right, gt_iff_lt, not_true_eq_false, not_false_eq_true, Bool.not_true, Bool.not_false, decide_eq_true_eq, Nat.reduceSub, Nat.reduceAdd, List.append_assoc, tChain, tDIn, tDNotIn, sDDel, tAug, ipI]
    refine ⟨.int m, rfl, m, rfl, by omega, by omega, fun d nd => lc_range (lo := 0) (n := m.toNat) (WordInv H a d) ⟨[], upd_same, rfl, (fun z hz => nomatch hz), R.up (R.ne nd), Kp.new nd⟩ ?_ ?_⟩
    · rintro i H1 hi ⟨zs, hd, hz, hl, R1, kp⟩
      simp only [tSeq, tIfS, tTest, tOp, tUn, tCB, tCons, tNil, tVar, tC, rI0, rI, rU, rEq, rNe, tRet, tRetN, tAsg, gName, gSub, tBM, tBM0, tNext, tB, tNot, tAnd, tOr, tIf, tCall, tDrop, tBreak, tCont, L2.start, tDGet, sDPut, tTup, tLst, tDNewK, tRevL, rCat, rAppend, rPop, rSetL, tAndV, tOrV, tNotV, tSl, tPart, tNoPart, tM1, gTup, gCons, gNil, cxK, cxnK, List.map_cons, List.map_nil, List.length_cons, List.length_nil, List.replicate, List.cons_append, List.nil_append, List.append_nil, List.set_cons_zero, List.set_cons_succ, List.getElem?_cons_zero, List.getElem?_cons_succ, Option.some.injEq, V.ref.injEq, V.int.injEq, V.str.injEq, V.bl.injEq, V.ty.injEq, exists_eq_left', exists_eq_left, exists_and_left, List.cons.injEq, and_true, true_and, sc_ii, sc_ss, sc_bb, sc_ni, sc_in, sc_is, sc_si, sc_nn, decide_true, decide_false, reduceCtorEq, Bool.false_eq_true, if_true, if_false, ite_true, ite_false, exists_const, eq_self, false_and, and_false, or_false, false_or, exists_false, Evl.rLenS, rSum, wipe, tYes, exists_eq, exists_eq', rIxL, rIxT, rIxS, exists_and_right, gt_iff_lt, not_true_eq_false, not_false_eq_true, Bool.not_true, Bool.not_false, decide_eq_true_eq, Nat.reduceSub, Nat.reduceAdd, List.append_assoc, tChain, tDIn, tDNotIn, sDDel, tAug, ipI]
      refine ⟨a, 26, rfl, R1, by decide, fun r H2 r0 r1 R2 k2 => ?_⟩
      have hc := lets_at r.toNat (by omega)
      have hdn : d ∉ [a] := not1 (R.ne nd).symm
      have kd : Kp [a] H H2 := kp.trans k2
      simp only [tSeq, tIfS, tTest, tOp, tUn, tCB, tCons, tNil, tVar, tC, rI0, rI, rU, rEq, rNe, tRet, tRetN, tAsg, gName, gSub, tBM, tBM0, tNext, tB, tNot, tAnd, tOr, tIf, tCall, tDrop, tBreak, tCont, L2.start, tDGet, sDPut, tTup, tLst, tDNewK, tRevL, rCat, rAppend, rPop, rSetL, tAndV, tOrV, tNotV, tSl, tPart, tNoPart, tM1, gTup, gCons, gNil, cxK, cxnK, List.map_cons, List.map_nil, List.length_cons, List.length_nil, List.replicate, List.cons_append, List.nil_append, List.append_nil, List.set_cons_zero, List.set_cons_succ, List.getElem?_cons_zero, List.getElem?_cons_succ, Option.some.injEq, V.ref.injEq, V.int.injEq, V.str.injEq, V.bl.injEq, V.ty.injEq, exists_eq_left', exists_eq_left, exists_and_left, List.cons.injEq, and_true, true_and, sc_ii, sc_ss, sc_bb, sc_ni, sc_in, sc_is, sc_si, sc_nn, decide_true, decide_false, reduceCtorEq, Bool.false_eq_true, if_true, if_false, ite_true, ite_false, exists_const, eq_self, false_and, and_false, or_false, false_or, exists_false, Evl.rLenS, rSum, wipe, tYes, exists_eq, exists_eq', rIxL, rIxT, rIxS, exists_and_right, gt_iff_lt, not_true_eq_false, not_false_eq_true, Bool.not_true, Bool.not_false, decide_eq_true_eq, Nat.reduceSub, Nat.reduceAdd, List.append_assoc, tChain, tDIn, tDNotIn, sDDel, tAug, ipI]
      refine ⟨by decide +kernel, _, atI_of r0 hc, _, k2 _ _ hdn hd, ?_, zs ++ [⟨#[97 + r.toNat]⟩], ?_, by simp [hz], ?_, R2.up (R.ne nd), ?_⟩
      · rw [List.length_map, hz]; exact smallL (by omega)
      · rw [upd_same, List.map_append]; rfl
      · intro z hzm
        rcases List.mem_append.mp hzm with h | h
        · exact hl z h
        · rw [List.mem_singleton.mp h]; exact ⟨rfl, low1 (by omega)⟩
      · exact kd.wr nd
    · rintro H1 ⟨zs, hd, hz, hl, R1, kp⟩
      have jl := join_low zs hl
      simp only [tSeq, tIfS, tTest, tOp, tUn, tCB, tCons, tNil, tVar, tC, rI0, rI, rU, rEq, rNe, tRet, tRetN, tAsg, gName, gSub, tBM, tBM0, tNext, tB, tNot, tAnd, tOr, tIf, tCall, tDrop, tBreak, tCont, L2.start, tDGet, sDPut, tTup, tLst, tDNewK, tRevL, rCat, rAppend, rPop, rSetL, tAndV, tOrV, tNotV, tSl, tPart, tNoPart, tM1, gTup, gCons, gNil, cxK, cxnK, List.map_cons, List.map_nil, List.length_cons, List.length_nil, List.replicate, List.cons_append, List.nil_append, List.append_nil, List.set_cons_zero, List.set_cons_succ, List.getElem?_cons_zero, List.getElem?_cons_succ, Option.some.injEq, V.ref.injEq, V.int.injEq, V.str.injEq, V.bl.injEq, V.ty.injEq, exists_eq_left', exists_eq_left, exists_and_left, List.cons.injEq, and_true, true_and, sc_ii, sc_ss, sc_bb, sc_ni, sc_in, sc_is, sc_si, sc_nn, decide_true, decide_false, reduceCtorEq, Bool.false_eq_true, if_true, if_false, ite_true, ite_false, exists_const, eq_self, false_and, and_false, or_false, false_or, exists_false, Evl.rLenS, rSum, wipe, tYes, exists_eq, exists_eq', rIxL, rIxT, rIxS, exists_and_right, gt_iff_lt, not_true_eq_false, not_false_eq_true, Bool.not_true, Bool.not_false, decide_eq_true_eq, Nat.reduceSub, Nat.reduceAdd, List.append_assoc, tChain, tDIn, tDNotIn, sDDel, tAug, ipI]
      refine ⟨zs, .inl (sq_l hd), ?_, ?_⟩
      · have e1 : (zs.map fun z => z.length).sum = zs.length := by
          clear hz jl hd
          induction zs with
          | nil => rfl
          | cons z r ih =>
            rw [List.map_cons, List.sum_cons, ih (fun z hz => hl z (List.mem_cons_of_mem _ hz)), (hl z (List.mem_cons_self)).1, List.length_cons]; omega
        have e2 : (Str.ofString "").length = 0 := rfl
        rw [e1, e2, hz]; omega
      · rw [TL.join_eq]
        exact q _ _ (jl.1.trans hz) jl.2 R1 kp

/-! ### names -/
/-- the word z has the letter of the number n at the place pl -/
def At (pl n : Nat) (z : Str) : Prop := z.cps.toList[pl]? = some (97 + n % 26)
def Nm (z : Str) : Prop := Low z ∧ 1 ≤ z.length ∧ z.length ≤ 8
theorem nodup_at {pl st : Nat} {zs : List Str} (hn : zs.length ≤ 26) (h : ∀ j z, zs[j]? = some z → At pl (st + j) z) : zs.Nodup := by
  unfold List.Nodup
  rw [List.pairwise_iff_getElem]
  intro i j hi hj hij e
  have a := h i _ (List.getElem?_eq_getElem hi)
  have b := h j _ (List.getElem?_eq_getElem hj)
  rw [e] at a
  have c := Option.some.inj (a.symm.trans b)
  omega
theorem at_glued {x y : Str} {pl n : Nat} (hx : x.length = pl) : At pl n (x ++ ⟨#[97 + n % 26]⟩ ++ y) := by
  have e : (x ++ ⟨#[97 + n % 26]⟩ ++ y : Str).cps.toList = x.cps.toList ++ ([97 + n % 26] ++ y.cps.toList) := by
    show (x.cps ++ #[97 + n % 26] ++ y.cps).toList = _
    simp
  unfold At
  have hl : x.cps.toList.length = pl := hx
  rw [e, ← hl, List.getElem?_append_right (Nat.le_refl _), Nat.sub_self]
  rfl
def spNames : Sp := fun vs H Q _ => ∃ (a : Addr) (m : Int), vs = [.ref a, .int m] ∧ RowAt H a ∧ 0 ≤ m ∧ m ≤ 26 ∧ ∀ (p : Addr) (zs : List Str) (H' : Hp), H p = none → H' p = some (.lst (zs.map V.str)) → zs.length = m.toNat → (∀ z ∈ zs, Nm z) → zs.Nodup → RowAt H' a → Kp [a] H H' → Q (.ref p) H'
def NamesInv (H : Hp) (a o : Addr) (m : Int) (pl st : Int) (i : Nat) (σ : L2.St) (H' : Hp) : Prop := ∃ (al : Bool) (hd tl : Str) (k : Option V) (zs : List Str),
  σ = [some (.ref a), some (.int m), some (.str lets), some (.int pl), some (.bl al), some (.int st), some (.str hd), some (.str tl), some (.ref o), k] ∧ hd.length = pl.toNat ∧ Low hd ∧ tl.length ≤ 4 ∧ Low tl ∧
  H' o = some (.lst (zs.map V.str)) ∧ zs.length = i ∧ (∀ j z, zs[j]? = some z → Nm z ∧ At pl.toNat (st.toNat + j) z) ∧ RowAt H' a ∧ Kp [a] H H'
theorem ok_law_names {f : Addr} {fd : FuncData} (D : Df K mg "_law_names" s_law_names ["_law_row_here", "_law_many_here"] f fd) (T : Bt0 mg) {fr : Addr} {fdr : FuncData} (D_law_draw : Df K mg "_law_draw" s_law_draw ["_law_row_here", "_law_many_here"] fr fdr) (G_law_draw : FnOk P w K mg base CX0 1 fr fdr ["_law_row_here", "_law_many_here"] spDraw)
    {fw : Addr} {fdw : FuncData} (D_law_word : Df K mg "_law_word" s_law_word ["_law_row_here", "_law_size_here"] fw fdw) (G_law_word : FnOk P w K mg base CX0 2 fw fdw ["_law_row_here", "_law_size_here"] spWord) : FnOk P w K mg base CX0 3 f fd ["_law_row_here", "_law_many_here"] spNames := by
  refine D.F.ok sc_law_names (fun vs H Q E h => ?_) (fun cdv A outer s H vs Q E hr h => ?_)
  · obtain ⟨a, m, rfl, _⟩ := h
    rfl
  · obtain ⟨a, m, rfl, R, m0, m1, q⟩ := h
    have hu := hu_of hr
    refine ⟨_, (pss_cons (ps_set (i := 2) sc_law_names.nd rfl (Or.inl rfl) pe_str)
      (pss_cons (ps_set (i := 3) sc_law_names.nd rfl (Or.inl rfl) (pe_call G_law_draw (hr.mono (by decide)) rfl D_law_draw.g D_law_draw.F.kp D_law_draw.b .nil pass0 (pa_cons (pv 0) (pa_cons pe_int pa_nil))))
      (pss_cons (ps_set (i := 4) sc_law_names.nd rfl (Or.inl rfl) (pe_cmpR op_eq (pe_call G_law_draw (hr.mono (by decide)) rfl D_law_draw.g D_law_draw.F.kp D_law_draw.b .nil pass0 (pa_cons (pv 0) (pa_cons pe_int pa_nil))) pe_int (nomark _)))
      (pss_cons (ps_set (i := 5) sc_law_names.nd rfl (Or.inl rfl) (pe_call G_law_draw (hr.mono (by decide)) rfl D_law_draw.g D_law_draw.F.kp D_law_draw.b .nil pass0 (pa_cons (pv 0) (pa_cons pe_int pa_nil))))
      (pss_cons (ps_set (i := 6) sc_law_names.nd rfl (Or.inl rfl) (pe_call G_law_word (hr.mono (by decide)) rfl D_law_word.g D_law_word.F.kp D_law_word.b .nil pass0 (pa_cons (pv 0) (pa_cons (pv 3) pa_nil))))
      (pss_cons (ps_set (i := 7) sc_law_names.nd rfl (Or.inl rfl) (pe_call G_law_word (hr.mono (by decide)) rfl D_law_word.g D_law_word.F.kp D_law_word.b .nil pass0 (pa_cons (pv 0) (pa_cons (pe_call G_law_draw (hr.mono (by decide)) rfl D_law_draw.g D_law_draw.F.kp D_law_draw.b .nil pass0 (pa_cons (pv 0) (pa_cons pe_int pa_nil))) pa_nil))))
      (pss_cons (ps_set (i := 8) sc_law_names.nd rfl (Or.inl rfl) (pe_lst pa_nil))
      (pss_cons (ps_for PassesOwn.never rfl (pi_range1 rfl T.b_range (pa_cons (pv 1) pa_nil)) (pg_name (i := 9) sc_law_names.nd rfl (Or.inl rfl)) (pss_cons (ps_expr (pe_bm PySem.F.plainAttrs_list PySem.F.slot_list_append PySem.F.type_list_append mt_append (pv 8) (pa_cons (pe_op op_add_str (pe_op op_add_str (pv 6) (pe_ix ix_str (pv 2) (pe_op op_mod (pe_callTy (T := "int") call_int1 (by rfl) T.b_int (by decide +kernel) (pa_cons (pe_op op_add (pv 5) (pv 9)) pa_nil)) pe_int) (fun _ _ => rfl))) (pv 7)) pa_nil)))
      (pss_one (ps_if (pt_not (pt_val (pv 4))) (pss_cons (ps_set (i := 6) sc_law_names.nd rfl (Or.inl rfl) (pe_call G_law_word (hr.mono (by decide)) rfl D_law_word.g D_law_word.F.kp D_law_word.b .nil pass0 (pa_cons (pv 0) (pa_cons (pv 3) pa_nil))))
      (pss_one (ps_set (i := 7) sc_law_names.nd rfl (Or.inl rfl) (pe_call G_law_word (hr.mono (by decide)) rfl D_law_word.g D_law_word.F.kp D_law_word.b .nil pass0 (pa_cons (pv 0) (pa_cons (pe_call G_law_draw (hr.mono (by decide)) rfl D_law_draw.g D_law_draw.F.kp D_law_draw.b .nil pass0 (pa_cons (pv 0) (pa_cons pe_int pa_nil))) pa_nil)))))) pss_nil))))
      (pss_one (ps_ret (pv 8))))))))))), ?_⟩
    simp only [tSeq, tIfS, tTest, tOp, tUn, tCB, tCons, tNil, tVar, tC, rI0, rI, rU, rEq, rNe, tRet, tRetN, tAsg, gName, gSub, tBM, tBM0, tNext, tB, tNot, tAnd, tOr, tIf, tCall, tDrop, tBreak, tCont, L2.start, tDGet, sDPut, tTup, tLst, tDNewK, tRevL, rCat, rAppend, rPop, rSetL, tAndV, tOrV, tNotV, tSl, tPart, tNoPart, tM1, gTup, gCons, gNil, cxK, cxnK, List.map_cons, List.map_nil, List.length_cons, List.length_nil, List.replicate, List.cons_append, List.nil_append, List.append_nil, List.set_cons_zero, List.set_cons_succ, List.getElem?_cons_zero, List.getElem?_cons_succ, Option.some.injEq, V.ref.injEq, V.int.injEq, V.str.injEq, V.bl.injEq, V.ty.injEq, exists_eq_left', exists_eq_left, exists_and_left, List.cons.injEq, and_true, true_and, sc_ii, sc_ss, sc_bb, sc_ni, sc_in, sc_is, sc_si, sc_nn, decide_true, decide_false, reduceCtorEq, Bool.false_eq_true, if_true, if_false, ite_true, ite_false, exists_const, eq_self, false_and, and_false, or_false, false_or, exists_false, Evl.rLenS, rSum, wipe, tYes, exists_eq, exists_eq', rIxL, rIxT, rIxS, exists_and_right, gt_iff_lt, not_true_eq_false, not_false_eq_true, Bool.not_true, Bool.not_false, decide_eq_true_eq, Nat.reduceSub, Nat.reduceAdd, List.append_assoc, tChain, tDIn, tDNotIn, sDDel, tAug, ipI]
    refine ⟨a, 4, rfl, R, by decide, fun pl H1 p0 p1 R1 k1 => ?_⟩
    simp only [tSeq, tIfS, tTest, tOp, tUn, tCB, tCons, tNil, tVar, tC, rI0, rI, rU, rEq, rNe, tRet, tRetN, tAsg, gName, gSub, tBM, tBM0, tNext, tB, tNot, tAnd, tOr, tIf, tCall, tDrop, tBreak, tCont, L2.start, tDGet, sDPut, tTup, tLst, tDNewK, tRevL, rCat, rAppend, rPop, rSetL, tAndV, tOrV, tNotV, tSl, tPart, tNoPart, tM1, gTup, gCons, gNil, cxK, cxnK, List.map_cons, List.map_nil, List.length_cons, List.length_nil, List.replicate, List.cons_append, List.nil_append, List.append_nil, List.set_cons_zero, List.set_cons_succ, List.getElem?_cons_zero, List.getElem?_cons_succ, Option.some.injEq, V.ref.injEq, V.int.injEq, V.str.injEq, V.bl.injEq, V.ty.injEq, exists_eq_left', exists_eq_left, exists_and_left, List.cons.injEq, and_true, true_and, sc_ii, sc_ss, sc_bb, sc_ni, sc_in, sc_is, sc_si, sc_nn, decide_true, decide_false, reduceCtorEq, Bool.false_eq_true, if_true, if_false, ite_true, ite_false, exists_const, eq_self, false_and, and_false, or_false, false_or, exists_false, Evl.rLenS, rSum, wipe, tYes, exists_eq, exists_eq', rIxL, rIxT, rIxS, exists_and_right, gt_iff_lt, not_true_eq_false, not_false_eq_true, Bool.not_true, Bool.not_false, decide_eq_true_eq, Nat.reduceSub, Nat.reduceAdd, List.append_assoc, tChain, tDIn, tDNotIn, sDDel, tAug, ipI]
    refine ⟨a, 2, rfl, R1, by decide, fun al H2 a0 a1 R2 k2 => ?_⟩
    simp only [tSeq, tIfS, tTest, tOp, tUn, tCB, tCons, tNil, tVar, tC, rI0, rI, rU, rEq, rNe, tRet, tRetN, tAsg, gName, gSub, tBM, tBM0, tNext, tB, tNot, tAnd, tOr, tIf, tCall, tDrop, tBreak, tCont, L2.start, tDGet, sDPut, tTup, tLst, tDNewK, tRevL, rCat, rAppend, rPop, rSetL, tAndV, tOrV, tNotV, tSl, tPart, tNoPart, tM1, gTup, gCons, gNil, cxK, cxnK, List.map_cons, List.map_nil, List.length_cons, List.length_nil, List.replicate, List.cons_append, List.nil_append, List.append_nil, List.set_cons_zero, List.set_cons_succ, List.getElem?_cons_zero, List.getElem?_cons_succ, Option.some.injEq, V.ref.injEq, V.int.injEq, V.str.injEq, V.bl.injEq, V.ty.injEq, exists_eq_left', exists_eq_left, exists_and_left, List.cons.injEq, and_true, true_and, sc_ii, sc_ss, sc_bb, sc_ni, sc_in, sc_is, sc_si, sc_nn, decide_true, decide_false, reduceCtorEq, Bool.false_eq_true, if_true, if_false, ite_true, ite_false, exists_const, eq_self, false_and, and_false, or_false, false_or, exists_false, Evl.rLenS, rSum, wipe, tYes, exists_eq, exists_eq', rIxL, rIxT, rIxS, exists_and_right, gt_iff_lt, not_true_eq_false, not_false_eq_true, Bool.not_true, Bool.not_false, decide_eq_true_eq, Nat.reduceSub, Nat.reduceAdd, List.append_assoc, tChain, tDIn, tDNotIn, sDDel, tAug, ipI]
    refine ⟨a, 26, rfl, R2, by decide, fun st H3 s0 s1 R3 k3 => ?_⟩
    simp only [tSeq, tIfS, tTest, tOp, tUn, tCB, tCons, tNil, tVar, tC, rI0, rI, rU, rEq, rNe, tRet, tRetN, tAsg, gName, gSub, tBM, tBM0, tNext, tB, tNot, tAnd, tOr, tIf, tCall, tDrop, tBreak, tCont, L2.start, tDGet, sDPut, tTup, tLst, tDNewK, tRevL, rCat, rAppend, rPop, rSetL, tAndV, tOrV, tNotV, tSl, tPart, tNoPart, tM1, gTup, gCons, gNil, cxK, cxnK, List.map_cons, List.map_nil, List.length_cons, List.length_nil, List.replicate, List.cons_append, List.nil_append, List.append_nil, List.set_cons_zero, List.set_cons_succ, List.getElem?_cons_zero, List.getElem?_cons_succ, Option.some.injEq, V.ref.injEq, V.int.injEq, V.str.injEq, V.bl.injEq, V.ty.injEq, exists_eq_left', exists_eq_left, exists_and_left, List.cons.injEq, and_true, true_and, sc_ii, sc_ss, sc_bb, sc_ni, sc_in, sc_is, sc_si, sc_nn, decide_true, decide_false, reduceCtorEq, Bool.false_eq_true, if_true, if_false, ite_true, ite_false, exists_const, eq_self, false_and, and_false, or_false, false_or, exists_false, Evl.rLenS, rSum, wipe, tYes, exists_eq, exists_eq', rIxL, rIxT, rIxS, exists_and_right, gt_iff_lt, not_true_eq_false, not_false_eq_true, Bool.not_true, Bool.not_false, decide_eq_true_eq, Nat.reduceSub, Nat.reduceAdd, List.append_assoc, tChain, tDIn, tDNotIn, sDDel, tAug, ipI]
    refine ⟨a, pl, rfl, R3, p0, by omega, fun hd H4 h1 h2 R4 k4 => ?_⟩
    simp only [tSeq, tIfS, tTest, tOp, tUn, tCB, tCons, tNil, tVar, tC, rI0, rI, rU, rEq, rNe, tRet, tRetN, tAsg, gName, gSub, tBM, tBM0, tNext, tB, tNot, tAnd, tOr, tIf, tCall, tDrop, tBreak, tCont, L2.start, tDGet, sDPut, tTup, tLst, tDNewK, tRevL, rCat, rAppend, rPop, rSetL, tAndV, tOrV, tNotV, tSl, tPart, tNoPart, tM1, gTup, gCons, gNil, cxK, cxnK, List.map_cons, List.map_nil, List.length_cons, List.length_nil, List.replicate, List.cons_append, List.nil_append, List.append_nil, List.set_cons_zero, List.set_cons_succ, List.getElem?_cons_zero, List.getElem?_cons_succ, Option.some.injEq, V.ref.injEq, V.int.injEq, V.str.injEq, V.bl.injEq, V.ty.injEq, exists_eq_left', exists_eq_left, exists_and_left, List.cons.injEq, and_true, true_and, sc_ii, sc_ss, sc_bb, sc_ni, sc_in, sc_is, sc_si, sc_nn, decide_true, decide_false, reduceCtorEq, Bool.false_eq_true, if_true, if_false, ite_true, ite_false, exists_const, eq_self, false_and, and_false, or_false, false_or, exists_false, Evl.rLenS, rSum, wipe, tYes, exists_eq, exists_eq', rIxL, rIxT, rIxS, exists_and_right, gt_iff_lt, not_true_eq_false, not_false_eq_true, Bool.not_true, Bool.not_false, decide_eq_true_eq, Nat.reduceSub, Nat.reduceAdd, List.append_assoc, tChain, tDIn, tDNotIn, sDDel, tAug, ipI]
    refine ⟨a, 5, rfl, R4, by decide, fun n5 H5 z0 z1 R5 k5 => ?_⟩
    simp only [tSeq, tIfS, tTest, tOp, tUn, tCB, tCons, tNil, tVar, tC, rI0, rI, rU, rEq, rNe, tRet, tRetN, tAsg, gName, gSub, tBM, tBM0, tNext, tB, tNot, tAnd, tOr, tIf, tCall, tDrop, tBreak, tCont, L2.start, tDGet, sDPut, tTup, tLst, tDNewK, tRevL, rCat, rAppend, rPop, rSetL, tAndV, tOrV, tNotV, tSl, tPart, tNoPart, tM1, gTup, gCons, gNil, cxK, cxnK, List.map_cons, List.map_nil, List.length_cons, List.length_nil, List.replicate, List.cons_append, List.nil_append, List.append_nil, List.set_cons_zero, List.set_cons_succ, List.getElem?_cons_zero, List.getElem?_cons_succ, Option.some.injEq, V.ref.injEq, V.int.injEq, V.str.injEq, V.bl.injEq, V.ty.injEq, exists_eq_left', exists_eq_left, exists_and_left, List.cons.injEq, and_true, true_and, sc_ii, sc_ss, sc_bb, sc_ni, sc_in, sc_is, sc_si, sc_nn, decide_true, decide_false, reduceCtorEq, Bool.false_eq_true, if_true, if_false, ite_true, ite_false, exists_const, eq_self, false_and, and_false, or_false, false_or, exists_false, Evl.rLenS, rSum, wipe, tYes, exists_eq, exists_eq', rIxL, rIxT, rIxS, exists_and_right, gt_iff_lt, not_true_eq_false, not_false_eq_true, Bool.not_true, Bool.not_false, decide_eq_true_eq, Nat.reduceSub, Nat.reduceAdd, List.append_assoc, tChain, tDIn, tDNotIn, sDDel, tAug, ipI]
    refine ⟨a, n5, rfl, R5, z0, by omega, fun tl H6 t1 t2 R6 k6 => ?_⟩
    simp only [tSeq, tIfS, tTest, tOp, tUn, tCB, tCons, tNil, tVar, tC, rI0, rI, rU, rEq, rNe, tRet, tRetN, tAsg, gName, gSub, tBM, tBM0, tNext, tB, tNot, tAnd, tOr, tIf, tCall, tDrop, tBreak, tCont, L2.start, tDGet, sDPut, tTup, tLst, tDNewK, tRevL, rCat, rAppend, rPop, rSetL, tAndV, tOrV, tNotV, tSl, tPart, tNoPart, tM1, gTup, gCons, gNil, cxK, cxnK, List.map_cons, List.map_nil, List.length_cons, List.length_nil, List.replicate, List.cons_append, List.nil_append, List.append_nil, List.set_cons_zero, List.set_cons_succ, List.getElem?_cons_zero, List.getElem?_cons_succ, Option.some.injEq, V.ref.injEq, V.int.injEq, V.str.injEq, V.bl.injEq, V.ty.injEq, exists_eq_left', exists_eq_left, exists_and_left, List.cons.injEq, and_true, true_and, sc_ii, sc_ss, sc_bb, sc_ni, sc_in, sc_is, sc_si, sc_nn, decide_true, decide_false, reduceCtorEq, Bool.false_eq_true, if_true, if_false, ite_true, ite_false, exists_const, eq_self, false_and, and_false, or_false, false_or, exists_false, Evl.rLenS, rSum, wipe, tYes, exists_eq, exists_eq', rIxL, rIxT, rIxS, exists_and_right, gt_iff_lt, not_true_eq_false, not_false_eq_true, Bool.not_true, Bool.not_false, decide_eq_true_eq, Nat.reduceSub, Nat.reduceAdd, List.append_assoc, tChain, tDIn, tDNotIn, sDDel, tAug, ipI]
    refine ⟨small (by decide), fun o no => ?_⟩
    have k7 : Kp [a] H (upd H6 o (.lst [])) := (((((k1.trans k2).trans k3).trans k4).trans k5).trans k6).trans (Kp.new no)
    have hao : a ≠ o := R6.ne no
    have hno : H o = none := (((((k1.trans k2).trans k3).trans k4).trans k5).trans k6).free no fun b hb => by rw [List.mem_singleton.mp hb]; exact R6.some
    refine ⟨.int m, rfl, m, rfl, by omega, by omega, for_range (lo := 0) (n := m.toNat) (NamesInv H a o m pl st) ⟨_, hd, tl, none, [], rfl, h1, h2, by omega, t2, upd_same, rfl, (fun j z hz => by simp at hz), R6.up hao, k7⟩ ?_ ?_⟩
    · rintro i σ H7 hi ⟨al', hd', tl', k, zs, rfl, e1, e2, e3, e4, e5, e6, e7, R7, k7⟩
      simp only [tSeq, tIfS, tTest, tOp, tUn, tCB, tCons, tNil, tVar, tC, rI0, rI, rU, rEq, rNe, tRet, tRetN, tAsg, gName, gSub, tBM, tBM0, tNext, tB, tNot, tAnd, tOr, tIf, tCall, tDrop, tBreak, tCont, L2.start, tDGet, sDPut, tTup, tLst, tDNewK, tRevL, rCat, rAppend, rPop, rSetL, tAndV, tOrV, tNotV, tSl, tPart, tNoPart, tM1, gTup, gCons, gNil, cxK, cxnK, List.map_cons, List.map_nil, List.length_cons, List.length_nil, List.replicate, List.cons_append, List.nil_append, List.append_nil, List.set_cons_zero, List.set_cons_succ, List.getElem?_cons_zero, List.getElem?_cons_succ, Option.some.injEq, V.ref.injEq, V.int.injEq, V.str.injEq, V.bl.injEq, V.ty.injEq, exists_eq_left', exists_eq_left, exists_and_left, List.cons.injEq, and_true, true_and, sc_ii, sc_ss, sc_bb, sc_ni, sc_in, sc_is, sc_si, sc_nn, decide_true, decide_false, reduceCtorEq, Bool.false_eq_true, if_true, if_false, ite_true, ite_false, exists_const, eq_self, false_and, and_false, or_false, false_or, exists_false, Evl.rLenS, rSum, wipe, tYes, exists_eq, exists_eq', rIxL, rIxT, rIxS, exists_and_right, gt_iff_lt, not_true_eq_false, not_false_eq_true, Bool.not_true, Bool.not_false, decide_eq_true_eq, Nat.reduceSub, Nat.reduceAdd, List.append_assoc, tChain, tDIn, tDNotIn, sDDel, tAug, ipI]
      have hx : (st + (0 + (i : Int))) % 26 = (((st.toNat + i) % 26 : Nat) : Int) := by omega
      have hc := lets_at ((st.toNat + i) % 26) (Nat.mod_lt _ (by decide))
      have eL : (lets.cps.toList) = (Str.ofString "abcdefghijklmnopqrstuvwxyz").cps.toList := rfl
      have key : Nm (hd' ++ ⟨#[97 + (st.toNat + i) % 26]⟩ ++ tl') := by
        refine ⟨low_app (low_app e2 (low1 (by omega))) e4, ?_, ?_⟩
        · rw [len_app, len_app]; show 1 ≤ hd'.length + 1 + tl'.length; omega
        · rw [len_app, len_app]; show hd'.length + 1 + tl'.length ≤ 8; omega
      have hin : o ∉ [a] := not1 hao.symm
      refine ⟨.inl ⟨rfl, _, sq_l e5⟩, by decide +kernel, by decide, _, atI_of (v := 97 + (st.toNat + i) % 26) (by omega) (by rw [hx]; exact hc), ?_, ?_, _, e5, ?_, ?_⟩
      · show hd'.length + 1 ≤ sizeLine; exact small (by omega)
      · rw [len_app]; show hd'.length + 1 + tl'.length ≤ sizeLine; exact small (by omega)
      · rw [List.length_map]; exact smallL (by omega)
      have k8 : Kp [a] H (upd H7 o (.lst ((zs ++ [hd' ++ ⟨#[97 + (st.toNat + i) % 26]⟩ ++ tl']).map V.str))) := k7.wr hno
      have e8 : ∀ j z, (zs ++ [hd' ++ ⟨#[97 + (st.toNat + i) % 26]⟩ ++ tl'])[j]? = some z → Nm z ∧ At pl.toNat (st.toNat + j) z := by
        intro j z hz
        rcases Nat.lt_trichotomy j zs.length with hj | hj | hj
        · rw [List.getElem?_append_left hj] at hz
          exact e7 j z hz
        · rw [List.getElem?_append_right (by omega), hj, Nat.sub_self] at hz
          have ez := Option.some.inj hz
          rw [← ez, hj, e6]
          exact ⟨key, at_glued e1⟩
        · rw [List.getElem?_eq_none (by rw [List.length_append, List.length_singleton]; omega)] at hz
          cases hz
      have e9 : (zs.map V.str ++ [V.str (hd' ++ ⟨#[97 + (st.toNat + i) % 26]⟩ ++ tl')]) = (zs ++ [hd' ++ ⟨#[97 + (st.toNat + i) % 26]⟩ ++ tl']).map V.str := by rw [List.map_append]; rfl
      rw [e9]
      refine ite2 (fun hal => ?_) (fun hal => ?_)
      · refine ⟨a, pl, rfl, R7.up hao, p0, by omega, fun hd2 H8 q1 q2 R8 k9 => ?_⟩
        simp only [tSeq, tIfS, tTest, tOp, tUn, tCB, tCons, tNil, tVar, tC, rI0, rI, rU, rEq, rNe, tRet, tRetN, tAsg, gName, gSub, tBM, tBM0, tNext, tB, tNot, tAnd, tOr, tIf, tCall, tDrop, tBreak, tCont, L2.start, tDGet, sDPut, tTup, tLst, tDNewK, tRevL, rCat, rAppend, rPop, rSetL, tAndV, tOrV, tNotV, tSl, tPart, tNoPart, tM1, gTup, gCons, gNil, cxK, cxnK, List.map_cons, List.map_nil, List.length_cons, List.length_nil, List.replicate, List.cons_append, List.nil_append, List.append_nil, List.set_cons_zero, List.set_cons_succ, List.getElem?_cons_zero, List.getElem?_cons_succ, Option.some.injEq, V.ref.injEq, V.int.injEq, V.str.injEq, V.bl.injEq, V.ty.injEq, exists_eq_left', exists_eq_left, exists_and_left, List.cons.injEq, and_true, true_and, sc_ii, sc_ss, sc_bb, sc_ni, sc_in, sc_is, sc_si, sc_nn, decide_true, decide_false, reduceCtorEq, Bool.false_eq_true, if_true, if_false, ite_true, ite_false, exists_const, eq_self, false_and, and_false, or_false, false_or, exists_false, Evl.rLenS, rSum, wipe, tYes, exists_eq, exists_eq', rIxL, rIxT, rIxS, exists_and_right, gt_iff_lt, not_true_eq_false, not_false_eq_true, Bool.not_true, Bool.not_false, decide_eq_true_eq, Nat.reduceSub, Nat.reduceAdd, List.append_assoc, tChain, tDIn, tDNotIn, sDDel, tAug, ipI]
        refine ⟨a, 5, rfl, R8, by decide, fun n5 H9 z0 z1 R9 k10 => ?_⟩
        simp only [tSeq, tIfS, tTest, tOp, tUn, tCB, tCons, tNil, tVar, tC, rI0, rI, rU, rEq, rNe, tRet, tRetN, tAsg, gName, gSub, tBM, tBM0, tNext, tB, tNot, tAnd, tOr, tIf, tCall, tDrop, tBreak, tCont, L2.start, tDGet, sDPut, tTup, tLst, tDNewK, tRevL, rCat, rAppend, rPop, rSetL, tAndV, tOrV, tNotV, tSl, tPart, tNoPart, tM1, gTup, gCons, gNil, cxK, cxnK, List.map_cons, List.map_nil, List.length_cons, List.length_nil, List.replicate, List.cons_append, List.nil_append, List.append_nil, List.set_cons_zero, List.set_cons_succ, List.getElem?_cons_zero, List.getElem?_cons_succ, Option.some.injEq, V.ref.injEq, V.int.injEq, V.str.injEq, V.bl.injEq, V.ty.injEq, exists_eq_left', exists_eq_left, exists_and_left, List.cons.injEq, and_true, true_and, sc_ii, sc_ss, sc_bb, sc_ni, sc_in, sc_is, sc_si, sc_nn, decide_true, decide_false, reduceCtorEq, Bool.false_eq_true, if_true, if_false, ite_true, ite_false, exists_const, eq_self, false_and, and_false, or_false, false_or, exists_false, Evl.rLenS, rSum, wipe, tYes, exists_eq, exists_eq', rIxL, rIxT, rIxS, exists_and_right, gt_iff_lt, not_true_eq_false, not_false_eq_true, Bool.not_true, Bool.not_false, decide_eq_true_eq, Nat.reduceSub, Nat.reduceAdd, List.append_assoc, tChain, tDIn, tDNotIn, sDDel, tAug, ipI]
        refine ⟨a, n5, rfl, R9, z0, by omega, fun tl2 H10 t1 t2 R10 k11 => ?_⟩
        simp only [tSeq, tIfS, tTest, tOp, tUn, tCB, tCons, tNil, tVar, tC, rI0, rI, rU, rEq, rNe, tRet, tRetN, tAsg, gName, gSub, tBM, tBM0, tNext, tB, tNot, tAnd, tOr, tIf, tCall, tDrop, tBreak, tCont, L2.start, tDGet, sDPut, tTup, tLst, tDNewK, tRevL, rCat, rAppend, rPop, rSetL, tAndV, tOrV, tNotV, tSl, tPart, tNoPart, tM1, gTup, gCons, gNil, cxK, cxnK, List.map_cons, List.map_nil, List.length_cons, List.length_nil, List.replicate, List.cons_append, List.nil_append, List.append_nil, List.set_cons_zero, List.set_cons_succ, List.getElem?_cons_zero, List.getElem?_cons_succ, Option.some.injEq, V.ref.injEq, V.int.injEq, V.str.injEq, V.bl.injEq, V.ty.injEq, exists_eq_left', exists_eq_left, exists_and_left, List.cons.injEq, and_true, true_and, sc_ii, sc_ss, sc_bb, sc_ni, sc_in, sc_is, sc_si, sc_nn, decide_true, decide_false, reduceCtorEq, Bool.false_eq_true, if_true, if_false, ite_true, ite_false, exists_const, eq_self, false_and, and_false, or_false, false_or, exists_false, Evl.rLenS, rSum, wipe, tYes, exists_eq, exists_eq', rIxL, rIxT, rIxS, exists_and_right, gt_iff_lt, not_true_eq_false, not_false_eq_true, Bool.not_true, Bool.not_false, decide_eq_true_eq, Nat.reduceSub, Nat.reduceAdd, List.append_assoc, tChain, tDIn, tDNotIn, sDDel, tAug, ipI]
        refine ⟨_, hd2, tl2, _, zs ++ [hd' ++ ⟨#[97 + (st.toNat + i) % 26]⟩ ++ tl'], rfl, q1, q2, by omega, t2, ?_, by rw [List.length_append, List.length_singleton, e6], e8, R10, ((k8.trans k9).trans k10).trans k11⟩
        exact k11 _ _ hin (k10 _ _ hin (k9 _ _ hin upd_same))
      · exact ⟨_, hd', tl', _, zs ++ [hd' ++ ⟨#[97 + (st.toNat + i) % 26]⟩ ++ tl'], rfl, e1, e2, e3, e4, upd_same, by rw [List.length_append, List.length_singleton, e6], e8, R7.up hao, k8⟩
    · rintro σ H7 ⟨al', hd', tl', k, zs, rfl, e1, e2, e3, e4, e5, e6, e7, R7, k7⟩
      simp only [tSeq, tIfS, tTest, tOp, tUn, tCB, tCons, tNil, tVar, tC, rI0, rI, rU, rEq, rNe, tRet, tRetN, tAsg, gName, gSub, tBM, tBM0, tNext, tB, tNot, tAnd, tOr, tIf, tCall, tDrop, tBreak, tCont, L2.start, tDGet, sDPut, tTup, tLst, tDNewK, tRevL, rCat, rAppend, rPop, rSetL, tAndV, tOrV, tNotV, tSl, tPart, tNoPart, tM1, gTup, gCons, gNil, cxK, cxnK, List.map_cons, List.map_nil, List.length_cons, List.length_nil, List.replicate, List.cons_append, List.nil_append, List.append_nil, List.set_cons_zero, List.set_cons_succ, List.getElem?_cons_zero, List.getElem?_cons_succ, Option.some.injEq, V.ref.injEq, V.int.injEq, V.str.injEq, V.bl.injEq, V.ty.injEq, exists_eq_left', exists_eq_left, exists_and_left, List.cons.injEq, and_true, true_and, sc_ii, sc_ss, sc_bb, sc_ni, sc_in, sc_is, sc_si, sc_nn, decide_true, decide_false, reduceCtorEq, Bool.false_eq_true, if_true, if_false, ite_true, ite_false, exists_const, eq_self, false_and, and_false, or_false, false_or, exists_false, Evl.rLenS, rSum, wipe, tYes, exists_eq, exists_eq', rIxL, rIxT, rIxS, exists_and_right, gt_iff_lt, not_true_eq_false, not_false_eq_true, Bool.not_true, Bool.not_false, decide_eq_true_eq, Nat.reduceSub, Nat.reduceAdd, List.append_assoc, tChain, tDIn, tDNotIn, sDDel, tAug, ipI]
      refine q o zs H7 hno e5 e6 (fun z hz => ?_) (nodup_at (by omega) fun j z hz => (e7 j z hz).2) R7 k7
      obtain ⟨j, hj⟩ := List.getElem?_of_mem hz
      exact (e7 j z hj).1
end
end My

set_option Elab.async false
set_option linter.all false
set_option maxRecDepth 100000
set_option maxHeartbeats 4000000
namespace My
open PySem L2 NdefX
abbrev s_law_other : Stmt := top 29
theorem sc_law_other : FnScope ["_law_row_here", "_law_name", "_law_way"] ["_law_row_here", "_law_name"] (defScope s_law_other) := ⟨rfl, rfl, rfl, by decide +kernel, rfl, by decide +kernel, by decide +kernel⟩
abbrev s_law_any : Stmt := top 31
theorem sc_law_any : FnScope ["_law_row_here", "_law_name", "_law_locks", "_law_size_here", "_law_steps", "_law_k", "_law_way", "_law_lock"] ["_law_row_here", "_law_name", "_law_locks", "_law_size_here"] (defScope s_law_any) := ⟨rfl, rfl, rfl, by decide +kernel, rfl, by decide +kernel, by decide +kernel⟩
abbrev s_law_size : Stmt := top 38
theorem sc_law_size : FnScope ["_law_row_here", "_law_way"] ["_law_row_here"] (defScope s_law_size) := ⟨rfl, rfl, rfl, by decide +kernel, rfl, by decide +kernel, by decide +kernel⟩
abbrev s_law_balanced : Stmt := top 30
theorem sc_law_balanced : FnScope ["_law_row_here", "_law_name", "_law_locks", "_law_size_here", "_law_steps", "_law_held", "_law_k", "_law_left", "_law_lock", "_law_way"] ["_law_row_here", "_law_name", "_law_locks", "_law_size_here"] (defScope s_law_balanced) := ⟨rfl, rfl, rfl, by decide +kernel, rfl, by decide +kernel, by decide +kernel⟩
abbrev s_law_changed : Stmt := top 32
theorem sc_law_changed : FnScope ["_law_row_here", "_law_steps", "_law_locks", "_law_at", "_law_way", "_law_lock"] ["_law_row_here", "_law_steps", "_law_locks"] (defScope s_law_changed) := ⟨rfl, rfl, rfl, by decide +kernel, rfl, by decide +kernel, by decide +kernel⟩
theorem nameS_of {z : Str} (h : Nm z) : nameS z = true := by
  obtain ⟨h1, h2, h3⟩ := h
  unfold nameS
  rw [decide_eq_true h2, decide_eq_true h3, Bool.true_and, Bool.true_and, List.all_eq_true]
  intro c hc
  obtain ⟨a, b⟩ := h1 c hc
  unfold lowC
  rw [decide_eq_true a, decide_eq_true b]; rfl
theorem partD_name (d : PyData) : partD "name" d = nameD d := by
  unfold partD; rw [if_neg (by decide +kernel), if_neg (by decide +kernel), if_neg (by decide +kernel)]
theorem partD_local (d : PyData) : partD "local" d = nameD d := by
  unfold partD; rw [if_neg (by decide +kernel), if_neg (by decide +kernel), if_neg (by decide +kernel)]
theorem partD_place (d : PyData) : partD "place" d = placeD d := by
  unfold partD; rw [if_pos rfl]
theorem partD_worth (d : PyData) : partD "worth" d = worthD d := by
  unfold partD; rw [if_neg (by decide +kernel), if_pos rfl]
theorem partD_guard (d : PyData) : partD "guard" d = (match d with | .none => true | d => guardD d) := by
  unfold partD; rw [if_neg (by decide +kernel), if_neg (by decide +kernel), if_pos rfl] <;> (cases d <;> rfl)
section
variable {H : Hp} {a : Addr} {z : Str}
theorem nm_len (h : Nm z) : z.length ≤ 1000 := by have := h.2.2; omega
theorem nm_ok (h : Nm z) : PyData.strOk z = true := by
  unfold PyData.strOk
  rw [← Array.all_toList, List.all_eq_true]
  intro c hc
  have := (h.1 c hc).2
  exact decide_eq_true (by omega)
theorem so_lock : PyData.strOk (Str.ofString "lock") = true := by decide +kernel
theorem so_free : PyData.strOk (Str.ofString "free") = true := by decide +kernel
theorem so_give : PyData.strOk (Str.ofString "give") = true := by decide +kernel
theorem so_fence : PyData.strOk (Str.ofString "fence") = true := by decide +kernel
theorem so_full : PyData.strOk (Str.ofString "full") = true := by decide +kernel
theorem so_take : PyData.strOk (Str.ofString "take") = true := by decide +kernel
theorem so_read : PyData.strOk (Str.ofString "read") = true := by decide +kernel
theorem so_write : PyData.strOk (Str.ofString "write") = true := by decide +kernel
theorem so_eq : PyData.strOk (Str.ofString "=") = true := by decide +kernel
theorem mk_lock (e : H a = some (.tup [.str "lock", .str z])) (h : Nm z) : StepV H (.ref a) (some (true, z)) := by
  have sok := nm_ok h
  refine ⟨a, "lock", [.str z], [.str z], ["name"], rfl, e, .cons (.str z) .nil, ⟨by simp [szAll, szD, nm_len h], rfl, by simp [SeqAt.shaped, PyData.canLay0, PyData.canLayAll0, PyData.depth, PyData.depthAll, so_lock, so_free, so_give, so_fence, so_full, so_take, so_read, so_write, so_eq, sok]⟩, by decide +kernel, ?_, by simp, ?_, .inr ⟨true, z, rfl, rfl, rfl, rfl⟩⟩
  · intro d hd; rw [List.mem_singleton.mp hd]; exact True.intro
  · have hn : nameD (.str z) = true := nameS_of h
    simp [stepD, partD_name, hn]
theorem mk_free (e : H a = some (.tup [.str "free", .str z])) (h : Nm z) : StepV H (.ref a) (some (false, z)) := by
  have sok := nm_ok h
  refine ⟨a, "free", [.str z], [.str z], ["name"], rfl, e, .cons (.str z) .nil, ⟨by simp [szAll, szD, nm_len h], rfl, by simp [SeqAt.shaped, PyData.canLay0, PyData.canLayAll0, PyData.depth, PyData.depthAll, so_lock, so_free, so_give, so_fence, so_full, so_take, so_read, so_write, so_eq, sok]⟩, by decide +kernel, ?_, by simp, ?_, .inr ⟨false, z, rfl, rfl, rfl, rfl⟩⟩
  · intro d hd; rw [List.mem_singleton.mp hd]; exact True.intro
  · have hn : nameD (.str z) = true := nameS_of h
    simp [stepD, partD_name, hn]
theorem worth1 {i : Int} (h0 : 0 ≤ i) (h1 : i < 10) : worthD (.tuple [.int i]) = true := by
  simp [worthD, nameD, belowD, h0, h1]
theorem mk_give {b : Addr} {i : Int} (e : H a = some (.tup [.str "give", .ref b, .non])) (eb : H b = some (.tup [.int i])) (h0 : 0 ≤ i) (h1 : i < 10) : StepV H (.ref a) none := by
  have sok := so_lock
  refine ⟨a, "give", _, [.tuple [.int i], .none], ["worth", "guard"], rfl, e, .cons (.tup eb (.cons (.int i) .nil)) (.cons .non .nil), ⟨rfl, rfl, by simp [SeqAt.shaped, PyData.canLay0, PyData.canLayAll0, PyData.depth, PyData.depthAll, so_lock, so_free, so_give, so_fence, so_full, so_take, so_read, so_write, so_eq, sok]⟩, by decide +kernel, ?_, by simp, ?_, .inl ⟨rfl, by decide +kernel, by decide +kernel⟩⟩
  · intro d hd
    rcases List.mem_cons.mp hd with rfl | hd
    · exact True.intro
    · rw [List.mem_singleton.mp hd]; exact True.intro
  · have hw := worth1 h0 h1
    simp [stepD, partD_worth, partD_guard, hw]
theorem mk_fence (e : H a = some (.tup [.str "fence", .str "full", .non])) : StepV H (.ref a) none := by
  have sok := so_lock
  refine ⟨a, "fence", _, [.str "full", .none], ["name", "guard"], rfl, e, .cons (.str _) (.cons .non .nil), ⟨by decide +kernel, rfl, by simp [SeqAt.shaped, PyData.canLay0, PyData.canLayAll0, PyData.depth, PyData.depthAll, so_lock, so_free, so_give, so_fence, so_full, so_take, so_read, so_write, so_eq, sok]⟩, by decide +kernel, ?_, by decide, by decide +kernel, .inl ⟨rfl, by decide +kernel, by decide +kernel⟩⟩
  intro d hd
  rcases List.mem_cons.mp hd with rfl | hd
  · exact True.intro
  · rw [List.mem_singleton.mp hd]; exact True.intro
theorem mk_take (e : H a = some (.tup [.str "take", .str z, .non])) (h : Nm z) : StepV H (.ref a) none := by
  have sok := nm_ok h
  refine ⟨a, "take", _, [.str z, .none], ["local", "guard"], rfl, e, .cons (.str _) (.cons .non .nil), ⟨by simp [szAll, szD, nm_len h], rfl, by simp [SeqAt.shaped, PyData.canLay0, PyData.canLayAll0, PyData.depth, PyData.depthAll, so_lock, so_free, so_give, so_fence, so_full, so_take, so_read, so_write, so_eq, sok]⟩, by decide +kernel, ?_, by simp, ?_, .inl ⟨rfl, by decide +kernel, by decide +kernel⟩⟩
  · intro d hd
    rcases List.mem_cons.mp hd with rfl | hd
    · exact True.intro
    · rw [List.mem_singleton.mp hd]; exact True.intro
  · have hn : nameD (.str z) = true := nameS_of h
    simp [stepD, partD_local, partD_guard, hn]
theorem mk_read (e : H a = some (.tup [.str "read", .str z, .str z, .non])) (h : Nm z) : StepV H (.ref a) none := by
  have sok := nm_ok h
  refine ⟨a, "read", _, [.str z, .str z, .none], ["local", "place", "guard"], rfl, e, .cons (.str _) (.cons (.str _) (.cons .non .nil)), ⟨by simp [szAll, szD, nm_len h], rfl, by simp [SeqAt.shaped, PyData.canLay0, PyData.canLayAll0, PyData.depth, PyData.depthAll, so_lock, so_free, so_give, so_fence, so_full, so_take, so_read, so_write, so_eq, sok]⟩, by decide +kernel, ?_, by simp, ?_, .inl ⟨rfl, by decide +kernel, by decide +kernel⟩⟩
  · intro d hd
    rcases List.mem_cons.mp hd with rfl | hd
    · exact True.intro
    rcases List.mem_cons.mp hd with rfl | hd
    · exact True.intro
    · rw [List.mem_singleton.mp hd]; exact True.intro
  · have hn : nameD (.str z) = true := nameS_of h
    have hp : placeD (.str z) = true := hn
    simp [stepD, partD_local, partD_guard, partD_place, hn, hp]
theorem mk_write {b c d : Addr} {i : Int} (e : H a = some (.tup [.str "write", .str z, .ref b, .ref c])) (eb : H b = some (.tup [.int i])) (ec : H c = some (.tup [.str z, .str "=", .ref d])) (ed : H d = some (.tup [.int 0])) (h : Nm z) (h0 : 0 ≤ i) (h1 : i < 10) : StepV H (.ref a) none := by
  have sok := nm_ok h
  refine ⟨a, "write", _, [.str z, .tuple [.int i], .tuple [.str z, .str "=", .tuple [.int 0]]], ["place", "worth", "guard"], rfl, e, .cons (.str _) (.cons (.tup eb (.cons (.int i) .nil)) (.cons (.tup ec (.cons (.str z) (.cons (.str _) (.cons (.tup ed (.cons (.int 0) .nil)) .nil)))) .nil)),
    ⟨by simp [szAll, szD, nm_len h]; decide +kernel, rfl, by simp [SeqAt.shaped, PyData.canLay0, PyData.canLayAll0, PyData.depth, PyData.depthAll, so_lock, so_free, so_give, so_fence, so_full, so_take, so_read, so_write, so_eq, sok]⟩, by decide +kernel, ?_, by simp, ?_, .inl ⟨rfl, by decide +kernel, by decide +kernel⟩⟩
  · intro d hd
    rcases List.mem_cons.mp hd with rfl | hd
    · exact True.intro
    rcases List.mem_cons.mp hd with rfl | hd
    · exact True.intro
    · rw [List.mem_singleton.mp hd]; exact True.intro
  · have hn : nameD (.str z) = true := nameS_of h
    have hp : placeD (.str z) = true := hn
    have hw := worth1 h0 h1
    have hs : signS "=" = true := by decide +kernel
    have hw0 : worthD (.tuple [.int 0]) = true := worth1 (by decide) (by decide)
    have hg : guardD (.tuple [.str z, .str "=", .tuple [.int 0]]) = true := by
      show (nameD (.str z) && (signS "=" && worthD (.tuple [.int 0]))) = true
      rw [hn, hs, hw0]; rfl
    simp [stepD, partD_worth, partD_guard, partD_place, hp, hw, hg]
end
def spOther : Sp := fun vs H Q _ => ∃ (a : Addr) (z : Str), vs = [.ref a, .str z] ∧ RowAt H a ∧ Nm z ∧ ∀ (v : V) (H' : Hp), StepV H' v none → RowAt H' a → Kp [a] H H' → Q v H'
def spSize : Sp := fun vs H Q _ => ∃ (a : Addr), vs = [.ref a] ∧ RowAt H a ∧ ∀ (m : Int) (H' : Hp), 1 ≤ m → m ≤ 79 → RowAt H' a → Kp [a] H H' → Q (.int m) H'
section
variable {P : Program} {w : World} {K : PySem.W.Frag} {mg : Str → Option Value} {base : Heap}
theorem ok_law_size {f : Addr} {fd : FuncData} (D : Df K mg "_law_size" s_law_size ["_law_row_here"] f fd) {fr : Addr} {fdr : FuncData} (D_law_draw : Df K mg "_law_draw" s_law_draw ["_law_row_here", "_law_many_here"] fr fdr) (G_law_draw : FnOk P w K mg base CX0 1 fr fdr ["_law_row_here", "_law_many_here"] spDraw) : FnOk P w K mg base CX0 2 f fd ["_law_row_here"] spSize := by
  refine D.F.ok sc_law_size (fun vs H Q E h => ?_) (fun cdv A outer s H vs Q E hr h => ?_)
  · obtain ⟨a, rfl, _⟩ := h
    rfl
  · obtain ⟨a, rfl, R, q⟩ := h
    refine ⟨_, (pss_cons (ps_set (i := 1) sc_law_size.nd rfl (Or.inl rfl) (pe_call G_law_draw (hr.mono (by decide)) rfl D_law_draw.g D_law_draw.F.kp D_law_draw.b .nil pass0 (pa_cons (pv 0) (pa_cons pe_int pa_nil))))
      (pss_cons (ps_if (pt_cmpR op_lt (pv 1) pe_int (nomark _)) (pss_one (ps_ret (pe_op op_add pe_int (pe_call G_law_draw (hr.mono (by decide)) rfl D_law_draw.g D_law_draw.F.kp D_law_draw.b .nil pass0 (pa_cons (pv 0) (pa_cons pe_int pa_nil)))))) pss_nil)
      (pss_one (ps_ret (pe_op op_add pe_int (pe_call G_law_draw (hr.mono (by decide)) rfl D_law_draw.g D_law_draw.F.kp D_law_draw.b .nil pass0 (pa_cons (pv 0) (pa_cons pe_int pa_nil)))))))), ?_⟩
    simp only [tSeq, tIfS, tTest, tOp, tUn, tCB, tCons, tNil, tVar, tC, rI0, rI, rU, rEq, rNe, tRet, tRetN, tAsg, gName, gSub, tBM, tBM0, tNext, tB, tNot, tAnd, tOr, tIf, tCall, tDrop, tBreak, tCont, L2.start, tDGet, sDPut, tTup, tLst, tDNewK, tRevL, rCat, rAppend, rPop, rSetL, tAndV, tOrV, tNotV, tSl, tPart, tNoPart, tM1, gTup, gCons, gNil, cxK, cxnK, List.map_cons, List.map_nil, List.length_cons, List.length_nil, List.replicate, List.cons_append, List.nil_append, List.append_nil, List.set_cons_zero, List.set_cons_succ, List.getElem?_cons_zero, List.getElem?_cons_succ, Option.some.injEq, V.ref.injEq, V.int.injEq, V.str.injEq, V.bl.injEq, V.ty.injEq, exists_eq_left', exists_eq_left, exists_and_left, List.cons.injEq, and_true, true_and, sc_ii, sc_ss, sc_bb, sc_ni, sc_in, sc_is, sc_si, sc_nn, decide_true, decide_false, reduceCtorEq, Bool.false_eq_true, if_true, if_false, ite_true, ite_false, exists_const, eq_self, false_and, and_false, or_false, false_or, exists_false, Evl.rLenS, rSum, wipe, tYes, exists_eq, exists_eq', rIxL, rIxT, rIxS, exists_and_right, gt_iff_lt, not_true_eq_false, not_false_eq_true, Bool.not_true, Bool.not_false, decide_eq_true_eq, Nat.reduceSub, Nat.reduceAdd, List.append_assoc, tChain, tDIn, tDNotIn, sDDel, tAug, ipI]
    refine ⟨a, 8, rfl, R, by decide, fun r H1 r0 r1 R1 k1 => ?_⟩
    simp only [tSeq, tIfS, tTest, tOp, tUn, tCB, tCons, tNil, tVar, tC, rI0, rI, rU, rEq, rNe, tRet, tRetN, tAsg, gName, gSub, tBM, tBM0, tNext, tB, tNot, tAnd, tOr, tIf, tCall, tDrop, tBreak, tCont, L2.start, tDGet, sDPut, tTup, tLst, tDNewK, tRevL, rCat, rAppend, rPop, rSetL, tAndV, tOrV, tNotV, tSl, tPart, tNoPart, tM1, gTup, gCons, gNil, cxK, cxnK, List.map_cons, List.map_nil, List.length_cons, List.length_nil, List.replicate, List.cons_append, List.nil_append, List.append_nil, List.set_cons_zero, List.set_cons_succ, List.getElem?_cons_zero, List.getElem?_cons_succ, Option.some.injEq, V.ref.injEq, V.int.injEq, V.str.injEq, V.bl.injEq, V.ty.injEq, exists_eq_left', exists_eq_left, exists_and_left, List.cons.injEq, and_true, true_and, sc_ii, sc_ss, sc_bb, sc_ni, sc_in, sc_is, sc_si, sc_nn, decide_true, decide_false, reduceCtorEq, Bool.false_eq_true, if_true, if_false, ite_true, ite_false, exists_const, eq_self, false_and, and_false, or_false, false_or, exists_false, Evl.rLenS, rSum, wipe, tYes, exists_eq, exists_eq', rIxL, rIxT, rIxS, exists_and_right, gt_iff_lt, not_true_eq_false, not_false_eq_true, Bool.not_true, Bool.not_false, decide_eq_true_eq, Nat.reduceSub, Nat.reduceAdd, List.append_assoc, tChain, tDIn, tDNotIn, sDDel, tAug, ipI]
    refine ite2 (fun h => ?_) (fun h => ?_)
    · refine ⟨a, 10, rfl, R1, by decide, fun m H2 m0 m1 R2 k2 => ?_⟩
      simp only [tSeq, tIfS, tTest, tOp, tUn, tCB, tCons, tNil, tVar, tC, rI0, rI, rU, rEq, rNe, tRet, tRetN, tAsg, gName, gSub, tBM, tBM0, tNext, tB, tNot, tAnd, tOr, tIf, tCall, tDrop, tBreak, tCont, L2.start, tDGet, sDPut, tTup, tLst, tDNewK, tRevL, rCat, rAppend, rPop, rSetL, tAndV, tOrV, tNotV, tSl, tPart, tNoPart, tM1, gTup, gCons, gNil, cxK, cxnK, List.map_cons, List.map_nil, List.length_cons, List.length_nil, List.replicate, List.cons_append, List.nil_append, List.append_nil, List.set_cons_zero, List.set_cons_succ, List.getElem?_cons_zero, List.getElem?_cons_succ, Option.some.injEq, V.ref.injEq, V.int.injEq, V.str.injEq, V.bl.injEq, V.ty.injEq, exists_eq_left', exists_eq_left, exists_and_left, List.cons.injEq, and_true, true_and, sc_ii, sc_ss, sc_bb, sc_ni, sc_in, sc_is, sc_si, sc_nn, decide_true, decide_false, reduceCtorEq, Bool.false_eq_true, if_true, if_false, ite_true, ite_false, exists_const, eq_self, false_and, and_false, or_false, false_or, exists_false, Evl.rLenS, rSum, wipe, tYes, exists_eq, exists_eq', rIxL, rIxT, rIxS, exists_and_right, gt_iff_lt, not_true_eq_false, not_false_eq_true, Bool.not_true, Bool.not_false, decide_eq_true_eq, Nat.reduceSub, Nat.reduceAdd, List.append_assoc, tChain, tDIn, tDNotIn, sDDel, tAug, ipI]
      exact q _ _ (by omega) (by omega) R2 (k1.trans k2)
    · refine ⟨a, 79, rfl, R1, by decide, fun m H2 m0 m1 R2 k2 => ?_⟩
      simp only [tSeq, tIfS, tTest, tOp, tUn, tCB, tCons, tNil, tVar, tC, rI0, rI, rU, rEq, rNe, tRet, tRetN, tAsg, gName, gSub, tBM, tBM0, tNext, tB, tNot, tAnd, tOr, tIf, tCall, tDrop, tBreak, tCont, L2.start, tDGet, sDPut, tTup, tLst, tDNewK, tRevL, rCat, rAppend, rPop, rSetL, tAndV, tOrV, tNotV, tSl, tPart, tNoPart, tM1, gTup, gCons, gNil, cxK, cxnK, List.map_cons, List.map_nil, List.length_cons, List.length_nil, List.replicate, List.cons_append, List.nil_append, List.append_nil, List.set_cons_zero, List.set_cons_succ, List.getElem?_cons_zero, List.getElem?_cons_succ, Option.some.injEq, V.ref.injEq, V.int.injEq, V.str.injEq, V.bl.injEq, V.ty.injEq, exists_eq_left', exists_eq_left, exists_and_left, List.cons.injEq, and_true, true_and, sc_ii, sc_ss, sc_bb, sc_ni, sc_in, sc_is, sc_si, sc_nn, decide_true, decide_false, reduceCtorEq, Bool.false_eq_true, if_true, if_false, ite_true, ite_false, exists_const, eq_self, false_and, and_false, or_false, false_or, exists_false, Evl.rLenS, rSum, wipe, tYes, exists_eq, exists_eq', rIxL, rIxT, rIxS, exists_and_right, gt_iff_lt, not_true_eq_false, not_false_eq_true, Bool.not_true, Bool.not_false, decide_eq_true_eq, Nat.reduceSub, Nat.reduceAdd, List.append_assoc, tChain, tDIn, tDNotIn, sDDel, tAug, ipI]
      exact q _ _ (by omega) (by omega) R2 (k1.trans k2)
theorem ok_law_other {f : Addr} {fd : FuncData} (D : Df K mg "_law_other" s_law_other ["_law_row_here", "_law_name"] f fd) {fr : Addr} {fdr : FuncData} (D_law_draw : Df K mg "_law_draw" s_law_draw ["_law_row_here", "_law_many_here"] fr fdr) (G_law_draw : FnOk P w K mg base CX0 1 fr fdr ["_law_row_here", "_law_many_here"] spDraw) : FnOk P w K mg base CX0 2 f fd ["_law_row_here", "_law_name"] spOther := by
  refine D.F.ok sc_law_other (fun vs H Q E h => ?_) (fun cdv A outer s H vs Q E hr h => ?_)
  · obtain ⟨a, z, rfl, _⟩ := h
    rfl
  · obtain ⟨a, z, rfl, R, hz, q⟩ := h
    have sm : ∀ {n : Nat}, n ≤ 10 → n ≤ sizeLine := fun h => small (by omega)
    refine ⟨_, (pss_cons (ps_set (i := 2) sc_law_other.nd rfl (Or.inl rfl) (pe_call G_law_draw (hr.mono (by decide)) rfl D_law_draw.g D_law_draw.F.kp D_law_draw.b .nil pass0 (pa_cons (pv 0) (pa_cons pe_int pa_nil))))
      (pss_cons (ps_if (pt_cmpR op_eq (pv 2) pe_int (nomark _)) (pss_one (ps_ret (pe_tup (pa_cons pe_str (pa_cons (pe_tup (pa_cons (pe_call G_law_draw (hr.mono (by decide)) rfl D_law_draw.g D_law_draw.F.kp D_law_draw.b .nil pass0 (pa_cons (pv 0) (pa_cons pe_int pa_nil))) pa_nil)) (pa_cons pe_non pa_nil)))))) pss_nil)
      (pss_cons (ps_if (pt_cmpR op_eq (pv 2) pe_int (nomark _)) (pss_one (ps_ret (pe_tup (pa_cons pe_str (pa_cons pe_str (pa_cons pe_non pa_nil)))))) pss_nil)
      (pss_cons (ps_if (pt_cmpR op_eq (pv 2) pe_int (nomark _)) (pss_one (ps_ret (pe_tup (pa_cons pe_str (pa_cons (pv 1) (pa_cons (pe_tup (pa_cons (pe_call G_law_draw (hr.mono (by decide)) rfl D_law_draw.g D_law_draw.F.kp D_law_draw.b .nil pass0 (pa_cons (pv 0) (pa_cons pe_int pa_nil))) pa_nil)) (pa_cons (pe_tup (pa_cons (pv 1) (pa_cons pe_str (pa_cons (pe_tup (pa_cons pe_int pa_nil)) pa_nil)))) pa_nil))))))) pss_nil)
      (pss_cons (ps_if (pt_cmpR op_eq (pv 2) pe_int (nomark _)) (pss_one (ps_ret (pe_tup (pa_cons pe_str (pa_cons (pv 1) (pa_cons pe_non pa_nil)))))) pss_nil)
      (pss_one (ps_ret (pe_tup (pa_cons pe_str (pa_cons (pv 1) (pa_cons (pv 1) (pa_cons pe_non pa_nil)))))))))))), ?_⟩
    simp only [tSeq, tIfS, tTest, tOp, tUn, tCB, tCons, tNil, tVar, tC, rI0, rI, rU, rEq, rNe, tRet, tRetN, tAsg, gName, gSub, tBM, tBM0, tNext, tB, tNot, tAnd, tOr, tIf, tCall, tDrop, tBreak, tCont, L2.start, tDGet, sDPut, tTup, tLst, tDNewK, tRevL, rCat, rAppend, rPop, rSetL, tAndV, tOrV, tNotV, tSl, tPart, tNoPart, tM1, gTup, gCons, gNil, cxK, cxnK, List.map_cons, List.map_nil, List.length_cons, List.length_nil, List.replicate, List.cons_append, List.nil_append, List.append_nil, List.set_cons_zero, List.set_cons_succ, List.getElem?_cons_zero, List.getElem?_cons_succ, Option.some.injEq, V.ref.injEq, V.int.injEq, V.str.injEq, V.bl.injEq, V.ty.injEq, exists_eq_left', exists_eq_left, exists_and_left, List.cons.injEq, and_true, true_and, sc_ii, sc_ss, sc_bb, sc_ni, sc_in, sc_is, sc_si, sc_nn, decide_true, decide_false, reduceCtorEq, Bool.false_eq_true, if_true, if_false, ite_true, ite_false, exists_const, eq_self, false_and, and_false, or_false, false_or, exists_false, Evl.rLenS, rSum, wipe, tYes, exists_eq, exists_eq', rIxL, rIxT, rIxS, exists_and_right, gt_iff_lt, not_true_eq_false, not_false_eq_true, Bool.not_true, Bool.not_false, decide_eq_true_eq, Nat.reduceSub, Nat.reduceAdd, List.append_assoc, tChain, tDIn, tDNotIn, sDDel, tAug, ipI]
    refine ⟨a, 5, rfl, R, by decide, fun r H1 r0 r1 R1 k1 => ?_⟩
    simp only [tSeq, tIfS, tTest, tOp, tUn, tCB, tCons, tNil, tVar, tC, rI0, rI, rU, rEq, rNe, tRet, tRetN, tAsg, gName, gSub, tBM, tBM0, tNext, tB, tNot, tAnd, tOr, tIf, tCall, tDrop, tBreak, tCont, L2.start, tDGet, sDPut, tTup, tLst, tDNewK, tRevL, rCat, rAppend, rPop, rSetL, tAndV, tOrV, tNotV, tSl, tPart, tNoPart, tM1, gTup, gCons, gNil, cxK, cxnK, List.map_cons, List.map_nil, List.length_cons, List.length_nil, List.replicate, List.cons_append, List.nil_append, List.append_nil, List.set_cons_zero, List.set_cons_succ, List.getElem?_cons_zero, List.getElem?_cons_succ, Option.some.injEq, V.ref.injEq, V.int.injEq, V.str.injEq, V.bl.injEq, V.ty.injEq, exists_eq_left', exists_eq_left, exists_and_left, List.cons.injEq, and_true, true_and, sc_ii, sc_ss, sc_bb, sc_ni, sc_in, sc_is, sc_si, sc_nn, decide_true, decide_false, reduceCtorEq, Bool.false_eq_true, if_true, if_false, ite_true, ite_false, exists_const, eq_self, false_and, and_false, or_false, false_or, exists_false, Evl.rLenS, rSum, wipe, tYes, exists_eq, exists_eq', rIxL, rIxT, rIxS, exists_and_right, gt_iff_lt, not_true_eq_false, not_false_eq_true, Bool.not_true, Bool.not_false, decide_eq_true_eq, Nat.reduceSub, Nat.reduceAdd, List.append_assoc, tChain, tDIn, tDNotIn, sDDel, tAug, ipI]
    refine ite2 (fun h => ?_) (fun h => ?_)
    · refine ⟨a, 10, rfl, R1, by decide, fun m H2 m0 m1 R2 k2 => ?_⟩
      simp only [tSeq, tIfS, tTest, tOp, tUn, tCB, tCons, tNil, tVar, tC, rI0, rI, rU, rEq, rNe, tRet, tRetN, tAsg, gName, gSub, tBM, tBM0, tNext, tB, tNot, tAnd, tOr, tIf, tCall, tDrop, tBreak, tCont, L2.start, tDGet, sDPut, tTup, tLst, tDNewK, tRevL, rCat, rAppend, rPop, rSetL, tAndV, tOrV, tNotV, tSl, tPart, tNoPart, tM1, gTup, gCons, gNil, cxK, cxnK, List.map_cons, List.map_nil, List.length_cons, List.length_nil, List.replicate, List.cons_append, List.nil_append, List.append_nil, List.set_cons_zero, List.set_cons_succ, List.getElem?_cons_zero, List.getElem?_cons_succ, Option.some.injEq, V.ref.injEq, V.int.injEq, V.str.injEq, V.bl.injEq, V.ty.injEq, exists_eq_left', exists_eq_left, exists_and_left, List.cons.injEq, and_true, true_and, sc_ii, sc_ss, sc_bb, sc_ni, sc_in, sc_is, sc_si, sc_nn, decide_true, decide_false, reduceCtorEq, Bool.false_eq_true, if_true, if_false, ite_true, ite_false, exists_const, eq_self, false_and, and_false, or_false, false_or, exists_false, Evl.rLenS, rSum, wipe, tYes, exists_eq, exists_eq', rIxL, rIxT, rIxS, exists_and_right, gt_iff_lt, not_true_eq_false, not_false_eq_true, Bool.not_true, Bool.not_false, decide_eq_true_eq, Nat.reduceSub, Nat.reduceAdd, List.append_assoc, tChain, tDIn, tDNotIn, sDDel, tAug, ipI]
      refine ⟨sm (by decide), fun p np => ⟨sm (by decide), fun t nt => ?_⟩⟩
      have pt : p ≠ t := fun z => by rw [← z, upd_same] at nt; cases nt
      exact q _ _ (mk_give upd_same (by rw [upd_ne pt]; exact upd_same) m0 m1) ((R2.up (R2.ne np)).up (by intro z; rw [← z] at nt; obtain ⟨o, eo⟩ := (R2.up (R2.ne np)).some (a := a); rw [eo] at nt; cases nt)) (((k1.trans k2).trans (Kp.new np).of0).trans (Kp.new nt).of0)
    refine ite2 (fun h => ?_) (fun h => ?_)
    · refine ⟨sm (by decide), fun t nt => ?_⟩
      exact q _ _ (mk_fence upd_same) (R1.up (R1.ne nt)) (k1.trans (Kp.new nt).of0)
    refine ite2 (fun h => ?_) (fun h => ?_)
    · refine ⟨a, 10, rfl, R1, by decide, fun m H2 m0 m1 R2 k2 => ?_⟩
      refine ⟨sm (by decide), fun p np => ⟨sm (by decide), fun d nd => ⟨sm (by decide), fun c nc => ⟨sm (by decide), fun t nt => ?_⟩⟩⟩⟩
      have e1 : upd H2 p (.tup [.int m]) p = some (.tup [.int m]) := upd_same
      have q1 := (Kp.new nd (o := .tup [.int 0])) _ _ not0 e1
      have q2 := (Kp.new nc (o := .tup [.str z, .str "=", .ref d])) _ _ not0 q1
      have q3 := (Kp.new nt (o := .tup [.str "write", .str z, .ref p, .ref c])) _ _ not0 q2
      have d2 := (Kp.new nc (o := .tup [.str z, .str "=", .ref d])) _ _ not0 (show upd (upd H2 p (.tup [.int m])) d (.tup [.int 0]) d = some (.tup [.int 0]) from upd_same)
      have d3 := (Kp.new nt (o := .tup [.str "write", .str z, .ref p, .ref c])) _ _ not0 d2
      have c3 := (Kp.new nt (o := .tup [.str "write", .str z, .ref p, .ref c])) _ _ not0 (show upd (upd (upd H2 p (.tup [.int m])) d (.tup [.int 0])) c (.tup [.str z, .str "=", .ref d]) c = some (.tup [.str z, .str "=", .ref d]) from upd_same)
      have Rp := R2.up (o := .tup [.int m]) (R2.ne np)
      have Rd := Rp.up (o := .tup [.int 0]) (Rp.ne nd)
      have Rc := Rd.up (o := .tup [.str z, .str "=", .ref d]) (Rd.ne nc)
      have Rt := Rc.up (o := .tup [.str "write", .str z, .ref p, .ref c]) (Rc.ne nt)
      exact q _ _ (mk_write upd_same q3 c3 d3 hz m0 m1) Rt (((((k1.trans k2).trans (Kp.new np).of0).trans (Kp.new nd).of0).trans (Kp.new nc).of0).trans (Kp.new nt).of0)
    refine ite2 (fun h => ?_) (fun h => ?_)
    · refine ⟨sm (by decide), fun t nt => ?_⟩
      exact q _ _ (mk_take upd_same hz) (R1.up (R1.ne nt)) (k1.trans (Kp.new nt).of0)
    · refine ⟨sm (by decide), fun t nt => ?_⟩
      exact q _ _ (mk_read upd_same hz) (R1.up (R1.ne nt)) (k1.trans (Kp.new nt).of0)
/-- steps of these forms alone, their locks among these -/
def StepsIn (H : Hp) (lks : List Str) (xs : List V) : Prop := ∀ x ∈ xs, ∃ l, StepV H x l ∧ ∀ b n, l = some (b, n) → n ∈ lks
theorem StepsIn.kpS {H H' : Hp} {S : List Addr} {lks : List Str} {xs : List V} (h : StepsIn H lks xs) (k : Kp S H H') (hS : ∀ a ∈ S, ∃ ys, H a = some (.lst ys)) : StepsIn H' lks xs := fun x hx => by
  obtain ⟨l, s, m⟩ := h x hx
  exact ⟨l, s.kpS k hS, m⟩
theorem StepsIn.snoc {H : Hp} {lks : List Str} {xs : List V} {v : V} {l : Lk} (h : StepsIn H lks xs) (s : StepV H v l) (m : ∀ b n, l = some (b, n) → n ∈ lks) : StepsIn H lks (xs ++ [v]) := fun x hx => by
  rcases List.mem_append.mp hx with hx | hx
  · exact h x hx
  · rw [List.mem_singleton.mp hx]; exact ⟨l, s, m⟩
theorem RowAt.l1 {H : Hp} {a : Addr} (h : RowAt H a) : ∀ b ∈ [a], ∃ ys, H b = Option.some (HO.lst ys) := fun b hb => by
  obtain ⟨ns, e, _⟩ := h
  rw [List.mem_singleton.mp hb]; exact ⟨_, e⟩
theorem pos_len {lks : List Str} (h : lks ≠ []) : (0 : Int) < ((lks.length : Nat) : Int) := by
  cases lks with
  | nil => exact absurd rfl h
  | cons a b => rw [List.length_cons]; omega
theorem add_new {H : Hp} {lks : List Str} {xs ys : List V} {o p : Addr} {t : List V} {l : Lk} (ho : H o = some (.lst xs)) (hx : StepsIn H lks xs) (np : H p = none) (s : StepV (upd H p (.tup t)) (.ref p) l) (m : ∀ b n, l = some (b, n) → n ∈ lks) :
    (upd H p (.tup t)) o = some (.lst xs) ∧ StepsIn (upd (upd H p (.tup t)) o (.lst ys)) lks (xs ++ [.ref p]) := by
  have e : (upd H p (.tup t)) o = some (.lst xs) := by rw [upd_ne (ne_of_none ho np)]; exact ho
  refine ⟨e, ?_⟩
  have h1 : StepsIn (upd H p (.tup t)) lks (xs ++ [.ref p]) := (hx.kpS (Kp.new np (S := [])) (fun a h => nomatch h)).snoc s m
  exact h1.kpS ((Kp.refl [o] _).put (List.mem_singleton.mpr rfl)) fun b hb => by rw [List.mem_singleton.mp hb]; exact ⟨_, e⟩
/-- what the two makers of steps promise -/
def spMake : Sp := fun vs H Q _ => ∃ (a lk : Addr) (z : Str) (lks : List Str) (m : Int), vs = [.ref a, .str z, .ref lk, .int m] ∧ RowAt H a ∧ Nm z ∧ H lk = some (.lst (lks.map V.str)) ∧ lk ≠ a ∧ lks ≠ [] ∧ (∀ y ∈ lks, Nm y) ∧ lks.length ≤ 10 ∧ 0 ≤ m ∧ m ≤ 80 ∧
  ∀ (p : Addr) (xs : List V) (H' : Hp), H p = none → H' p = some (.lst xs) → StepsIn H' lks xs → xs.length = m.toNat → RowAt H' a → Kp [a] H H' → Q (.ref p) H'
def AnyInv (a lk : Addr) (z : Str) (lks : List Str) (m : Int) (o : Addr) (H : Hp) (i : Nat) (σ : L2.St) (H' : Hp) : Prop := ∃ (xs : List V) (c1 c2 c3 : Option V), σ = [some (.ref a), some (.str z), some (.ref lk), some (.int m), some (.ref o), c1, c2, c3] ∧ H' o = some (.lst xs) ∧ StepsIn H' lks xs ∧ xs.length = i ∧ RowAt H' a ∧ Kp [a] H H'
theorem ok_law_any {f : Addr} {fd : FuncData} (D : Df K mg "_law_any" s_law_any ["_law_row_here", "_law_name", "_law_locks", "_law_size_here"] f fd) (T : Bt0 mg) {fr : Addr} {fdr : FuncData} (D_law_draw : Df K mg "_law_draw" s_law_draw ["_law_row_here", "_law_many_here"] fr fdr) (G_law_draw : FnOk P w K mg base CX0 1 fr fdr ["_law_row_here", "_law_many_here"] spDraw)
    {fo : Addr} {fdo : FuncData} (D_law_other : Df K mg "_law_other" s_law_other ["_law_row_here", "_law_name"] fo fdo) (G_law_other : FnOk P w K mg base CX0 2 fo fdo ["_law_row_here", "_law_name"] spOther) : FnOk P w K mg base CX0 3 f fd ["_law_row_here", "_law_name", "_law_locks", "_law_size_here"] spMake := by
  refine D.F.ok sc_law_any (fun vs H Q E h => ?_) (fun cdv A outer s H vs Q E hr h => ?_)
  · obtain ⟨a, lk, z, lks, m, rfl, _⟩ := h
    rfl
  · obtain ⟨a, lk, z, lks, m, rfl, R, hz, hlk, hne, h0, hy, hl, m0, m1, q⟩ := h
    have sm : ∀ {n : Nat}, n ≤ 10 → n ≤ sizeLine := fun h => small (by omega)
    refine ⟨_, (pss_cons (ps_set (i := 4) sc_law_any.nd rfl (Or.inl rfl) (pe_lst pa_nil))
      (pss_cons (ps_for PassesOwn.never rfl (pi_range1 rfl T.b_range (pa_cons (pv 3) pa_nil)) (pg_name (i := 5) sc_law_any.nd rfl (Or.inl rfl)) (pss_cons (ps_set (i := 6) sc_law_any.nd rfl (Or.inl rfl) (pe_call G_law_draw (hr.mono (by decide)) rfl D_law_draw.g D_law_draw.F.kp D_law_draw.b .nil pass0 (pa_cons (pv 0) (pa_cons pe_int pa_nil))))
      (pss_cons (ps_set (i := 7) sc_law_any.nd rfl (Or.inl rfl) (pe_ix (r := rIxL K) ix_list (pv 2) (pe_call G_law_draw (hr.mono (by decide)) rfl D_law_draw.g D_law_draw.F.kp D_law_draw.b .nil pass0 (pa_cons (pv 0) (pa_cons (pe_callB (id := "len") (r := Evl.rLenS K) call_len_seq (by rfl) T.b_len PySem.boot_len (pa_cons (pv 2) pa_nil)) pa_nil))) (fun _ _ => rfl)))
      (pss_one (ps_if (pt_cmpR op_eq (pv 6) pe_int (nomark _)) (pss_one (ps_expr (pe_bm PySem.F.plainAttrs_list PySem.F.slot_list_append PySem.F.type_list_append mt_append (pv 4) (pa_cons (pe_call G_law_other (hr.mono (by decide)) rfl D_law_other.g D_law_other.F.kp D_law_other.b .nil pass0 (pa_cons (pv 0) (pa_cons (pv 1) pa_nil))) pa_nil)))) (pss_one (ps_if (pt_cmpR op_eq (pv 6) pe_int (nomark _)) (pss_one (ps_expr (pe_bm PySem.F.plainAttrs_list PySem.F.slot_list_append PySem.F.type_list_append mt_append (pv 4) (pa_cons (pe_tup (pa_cons pe_str (pa_cons (pv 7) pa_nil))) pa_nil)))) (pss_one (ps_expr (pe_bm PySem.F.plainAttrs_list PySem.F.slot_list_append PySem.F.type_list_append mt_append (pv 4) (pa_cons (pe_tup (pa_cons pe_str (pa_cons (pv 7) pa_nil))) pa_nil)))))))))))
      (pss_one (ps_ret (pv 4))))), ?_⟩
    simp only [tSeq, tIfS, tTest, tOp, tUn, tCB, tCons, tNil, tVar, tC, rI0, rI, rU, rEq, rNe, tRet, tRetN, tAsg, gName, gSub, tBM, tBM0, tNext, tB, tNot, tAnd, tOr, tIf, tCall, tDrop, tBreak, tCont, L2.start, tDGet, sDPut, tTup, tLst, tDNewK, tRevL, rCat, rAppend, rPop, rSetL, tAndV, tOrV, tNotV, tSl, tPart, tNoPart, tM1, gTup, gCons, gNil, cxK, cxnK, List.map_cons, List.map_nil, List.length_cons, List.length_nil, List.replicate, List.cons_append, List.nil_append, List.append_nil, List.set_cons_zero, List.set_cons_succ, List.getElem?_cons_zero, List.getElem?_cons_succ, Option.some.injEq, V.ref.injEq, V.int.injEq, V.str.injEq, V.bl.injEq, V.ty.injEq, exists_eq_left', exists_eq_left, exists_and_left, List.cons.injEq, and_true, true_and, sc_ii, sc_ss, sc_bb, sc_ni, sc_in, sc_is, sc_si, sc_nn, decide_true, decide_false, reduceCtorEq, Bool.false_eq_true, if_true, if_false, ite_true, ite_false, exists_const, eq_self, false_and, and_false, or_false, false_or, exists_false, Evl.rLenS, rSum, wipe, tYes, exists_eq, exists_eq', rIxL, rIxT, rIxS, exists_and_right, gt_iff_lt, not_true_eq_false, not_false_eq_true, Bool.not_true, Bool.not_false, decide_eq_true_eq, Nat.reduceSub, Nat.reduceAdd, List.append_assoc, tChain, tDIn, tDNotIn, sDDel, tAug, ipI]
    refine ⟨sm (by decide), fun o no => ?_⟩
    refine ⟨.int m, rfl, m, rfl, by omega, by omega, for_range (lo := 0) (n := m.toNat) (AnyInv a lk z lks m o H) ⟨[], _, _, _, rfl, upd_same, (fun x hx => nomatch hx), rfl, R.up (R.ne no), (Kp.new no).of0⟩ ?_ ?_⟩
    · rintro i σ H1 hi ⟨xs, c1, c2, c3, rfl, ho, hx, hn, R1, k1⟩
      have hlk1 := k1 _ _ (not1 hne) hlk
      have hao : o ∉ [a] := not1 (R.ne no).symm
      simp only [tSeq, tIfS, tTest, tOp, tUn, tCB, tCons, tNil, tVar, tC, rI0, rI, rU, rEq, rNe, tRet, tRetN, tAsg, gName, gSub, tBM, tBM0, tNext, tB, tNot, tAnd, tOr, tIf, tCall, tDrop, tBreak, tCont, L2.start, tDGet, sDPut, tTup, tLst, tDNewK, tRevL, rCat, rAppend, rPop, rSetL, tAndV, tOrV, tNotV, tSl, tPart, tNoPart, tM1, gTup, gCons, gNil, cxK, cxnK, List.map_cons, List.map_nil, List.length_cons, List.length_nil, List.replicate, List.cons_append, List.nil_append, List.append_nil, List.set_cons_zero, List.set_cons_succ, List.getElem?_cons_zero, List.getElem?_cons_succ, Option.some.injEq, V.ref.injEq, V.int.injEq, V.str.injEq, V.bl.injEq, V.ty.injEq, exists_eq_left', exists_eq_left, exists_and_left, List.cons.injEq, and_true, true_and, sc_ii, sc_ss, sc_bb, sc_ni, sc_in, sc_is, sc_si, sc_nn, decide_true, decide_false, reduceCtorEq, Bool.false_eq_true, if_true, if_false, ite_true, ite_false, exists_const, eq_self, false_and, and_false, or_false, false_or, exists_false, Evl.rLenS, rSum, wipe, tYes, exists_eq, exists_eq', rIxL, rIxT, rIxS, exists_and_right, gt_iff_lt, not_true_eq_false, not_false_eq_true, Bool.not_true, Bool.not_false, decide_eq_true_eq, Nat.reduceSub, Nat.reduceAdd, List.append_assoc, tChain, tDIn, tDNotIn, sDDel, tAug, ipI]
      refine ⟨a, 3, rfl, R1, by decide, fun r H2 r0 r1 R2 k2 => ?_⟩
      simp only [tSeq, tIfS, tTest, tOp, tUn, tCB, tCons, tNil, tVar, tC, rI0, rI, rU, rEq, rNe, tRet, tRetN, tAsg, gName, gSub, tBM, tBM0, tNext, tB, tNot, tAnd, tOr, tIf, tCall, tDrop, tBreak, tCont, L2.start, tDGet, sDPut, tTup, tLst, tDNewK, tRevL, rCat, rAppend, rPop, rSetL, tAndV, tOrV, tNotV, tSl, tPart, tNoPart, tM1, gTup, gCons, gNil, cxK, cxnK, List.map_cons, List.map_nil, List.length_cons, List.length_nil, List.replicate, List.cons_append, List.nil_append, List.append_nil, List.set_cons_zero, List.set_cons_succ, List.getElem?_cons_zero, List.getElem?_cons_succ, Option.some.injEq, V.ref.injEq, V.int.injEq, V.str.injEq, V.bl.injEq, V.ty.injEq, exists_eq_left', exists_eq_left, exists_and_left, List.cons.injEq, and_true, true_and, sc_ii, sc_ss, sc_bb, sc_ni, sc_in, sc_is, sc_si, sc_nn, decide_true, decide_false, reduceCtorEq, Bool.false_eq_true, if_true, if_false, ite_true, ite_false, exists_const, eq_self, false_and, and_false, or_false, false_or, exists_false, Evl.rLenS, rSum, wipe, tYes, exists_eq, exists_eq', rIxL, rIxT, rIxS, exists_and_right, gt_iff_lt, not_true_eq_false, not_false_eq_true, Bool.not_true, Bool.not_false, decide_eq_true_eq, Nat.reduceSub, Nat.reduceAdd, List.append_assoc, tChain, tDIn, tDNotIn, sDDel, tAug, ipI]
      have hlk2 := k2 _ _ (not1 hne) hlk1
      refine ⟨_, .inl (sq_l hlk2), ?_⟩
      rw [List.length_map]
      refine ⟨a, _, rfl, R2, pos_len h0, fun j H3 j0 j1 R3 k3 => ?_⟩
      simp only [tSeq, tIfS, tTest, tOp, tUn, tCB, tCons, tNil, tVar, tC, rI0, rI, rU, rEq, rNe, tRet, tRetN, tAsg, gName, gSub, tBM, tBM0, tNext, tB, tNot, tAnd, tOr, tIf, tCall, tDrop, tBreak, tCont, L2.start, tDGet, sDPut, tTup, tLst, tDNewK, tRevL, rCat, rAppend, rPop, rSetL, tAndV, tOrV, tNotV, tSl, tPart, tNoPart, tM1, gTup, gCons, gNil, cxK, cxnK, List.map_cons, List.map_nil, List.length_cons, List.length_nil, List.replicate, List.cons_append, List.nil_append, List.append_nil, List.set_cons_zero, List.set_cons_succ, List.getElem?_cons_zero, List.getElem?_cons_succ, Option.some.injEq, V.ref.injEq, V.int.injEq, V.str.injEq, V.bl.injEq, V.ty.injEq, exists_eq_left', exists_eq_left, exists_and_left, List.cons.injEq, and_true, true_and, sc_ii, sc_ss, sc_bb, sc_ni, sc_in, sc_is, sc_si, sc_nn, decide_true, decide_false, reduceCtorEq, Bool.false_eq_true, if_true, if_false, ite_true, ite_false, exists_const, eq_self, false_and, and_false, or_false, false_or, exists_false, Evl.rLenS, rSum, wipe, tYes, exists_eq, exists_eq', rIxL, rIxT, rIxS, exists_and_right, gt_iff_lt, not_true_eq_false, not_false_eq_true, Bool.not_true, Bool.not_false, decide_eq_true_eq, Nat.reduceSub, Nat.reduceAdd, List.append_assoc, tChain, tDIn, tDNotIn, sDDel, tAug, ipI]
      have hlk3 := k3 _ _ (not1 hne) hlk2
      obtain ⟨y, hym, ey⟩ := atI_ex (xs := lks.map V.str) j0 (by rw [List.length_map]; exact j1)
      obtain ⟨u, hu, rfl⟩ := List.mem_map.mp hym
      refine ⟨_, sq_l hlk3, _, ey, ?_⟩
      have k13 := (k1.trans k2).trans k3
      have ho3 := k3 _ _ hao (k2 _ _ hao ho)
      have hx3 := (hx.kpS k2 R1.l1).kpS k3 R2.l1
      have sz : xs.length < sizeLine := smallL (by omega)
      have up : ∀ {H4 : Hp} {ys : List V}, H4 o = some (.lst xs) → RowAt H4 a → RowAt (upd H4 o (.lst ys)) a := fun e r => r.up (fun z => hao (by rw [z]; exact List.mem_cons_self))
      refine ite2 (fun h => ?_) (fun h => ?_)
      · refine ⟨.inl ⟨rfl, _, sq_l ho3⟩, a, z, rfl, R3, hz, fun v H4 sv R4 k4 => ?_⟩
        have ho4 := k4 _ _ hao ho3
        refine ⟨_, ho4, sz, xs ++ [v], _, _, _, rfl, upd_same, ?_, by rw [List.length_append, List.length_singleton, hn], up ho4 R4, (k13.trans k4).wr no⟩
        exact ((hx3.kpS k4 R3.l1).snoc sv (fun b n z => nomatch z)).kpS ((Kp.refl [o] _).put (List.mem_singleton.mpr rfl)) fun b hb => by rw [List.mem_singleton.mp hb]; exact ⟨_, ho4⟩
      refine ite2 (fun h => ?_) (fun h => ?_)
      · refine ⟨.inl ⟨rfl, _, sq_l ho3⟩, sm (by decide), fun p np => ?_⟩
        have g := add_new (ys := xs ++ [.ref p]) ho3 hx3 np (mk_lock upd_same (hy u hu)) (fun b n z => by cases z; exact hu)
        exact ⟨_, g.1, sz, xs ++ [.ref p], _, _, _, rfl, upd_same, g.2, by rw [List.length_append, List.length_singleton, hn], up g.1 (R3.up (R3.ne np)), (k13.trans (Kp.new np).of0).wr no⟩
      · refine ⟨.inl ⟨rfl, _, sq_l ho3⟩, sm (by decide), fun p np => ?_⟩
        have g := add_new (ys := xs ++ [.ref p]) ho3 hx3 np (mk_free upd_same (hy u hu)) (fun b n z => by cases z; exact hu)
        exact ⟨_, g.1, sz, xs ++ [.ref p], _, _, _, rfl, upd_same, g.2, by rw [List.length_append, List.length_singleton, hn], up g.1 (R3.up (R3.ne np)), (k13.trans (Kp.new np).of0).wr no⟩
    · rintro σ H1 ⟨xs, c1, c2, c3, rfl, ho, hx, hn, R1, k1⟩
      simp only [tSeq, tIfS, tTest, tOp, tUn, tCB, tCons, tNil, tVar, tC, rI0, rI, rU, rEq, rNe, tRet, tRetN, tAsg, gName, gSub, tBM, tBM0, tNext, tB, tNot, tAnd, tOr, tIf, tCall, tDrop, tBreak, tCont, L2.start, tDGet, sDPut, tTup, tLst, tDNewK, tRevL, rCat, rAppend, rPop, rSetL, tAndV, tOrV, tNotV, tSl, tPart, tNoPart, tM1, gTup, gCons, gNil, cxK, cxnK, List.map_cons, List.map_nil, List.length_cons, List.length_nil, List.replicate, List.cons_append, List.nil_append, List.append_nil, List.set_cons_zero, List.set_cons_succ, List.getElem?_cons_zero, List.getElem?_cons_succ, Option.some.injEq, V.ref.injEq, V.int.injEq, V.str.injEq, V.bl.injEq, V.ty.injEq, exists_eq_left', exists_eq_left, exists_and_left, List.cons.injEq, and_true, true_and, sc_ii, sc_ss, sc_bb, sc_ni, sc_in, sc_is, sc_si, sc_nn, decide_true, decide_false, reduceCtorEq, Bool.false_eq_true, if_true, if_false, ite_true, ite_false, exists_const, eq_self, false_and, and_false, or_false, false_or, exists_false, Evl.rLenS, rSum, wipe, tYes, exists_eq, exists_eq', rIxL, rIxT, rIxS, exists_and_right, gt_iff_lt, not_true_eq_false, not_false_eq_true, Bool.not_true, Bool.not_false, decide_eq_true_eq, Nat.reduceSub, Nat.reduceAdd, List.append_assoc, tChain, tDIn, tDNotIn, sDDel, tAug, ipI]
      exact q o xs H1 no ho hx hn R1 k1
def BalInv (a lk : Addr) (z : Str) (lks : List Str) (m : Int) (o hq : Addr) (H : Hp) (i : Nat) (σ : L2.St) (H' : Hp) : Prop := ∃ (xs : List V) (hs : List Str) (c1 c2 c3 c4 : Option V), σ = [some (.ref a), some (.str z), some (.ref lk), some (.int m), some (.ref o), some (.ref hq), c1, c2, c3, c4] ∧ H' o = some (.lst xs) ∧ H' hq = some (.lst (hs.map V.str)) ∧ (∀ y ∈ hs, y ∈ lks) ∧ hs.length ≤ i ∧ StepsIn H' lks xs ∧ xs.length = i ∧ RowAt H' a ∧ Kp [a] H H'
theorem first_at {u : Str} : ∀ {hs : List Str}, u ∈ hs → ∃ j, hs[j]? = some u ∧ ∀ m : Nat, m < j → hs[m]? ≠ some u
  | y :: r, h => by
    by_cases e : y = u
    · exact ⟨0, by rw [e]; rfl, fun m hm => absurd hm (by omega)⟩
    · rcases List.mem_cons.mp h with z | z
      · exact absurd z.symm e
      · obtain ⟨j, h1, h2⟩ := first_at z
        refine ⟨j + 1, h1, fun m hm => ?_⟩
        cases m with
        | zero => exact fun q => e (Option.some.inj q)
        | succ m => exact h2 m (by omega)
theorem bal_add {a lk : Addr} {z : Str} {lks : List Str} {m : Int} {o hq : Addr} {H H4 : Hp} {i : Nat} {xs : List V} {hs : List Str} {t : List V} {l : Lk} {c1 c2 c3 c4 : Option V} (oq : o ≠ hq) (hao : o ∉ [a]) (no : H o = none) (ho : H4 o = some (.lst xs)) (hh : H4 hq = some (.lst (hs.map V.str)))
    (hsub : ∀ y ∈ hs, y ∈ lks) (hsl : hs.length ≤ i + 1) (hx : StepsIn H4 lks xs) (hn : xs.length = i) (hi : i ≤ 100) (R : RowAt H4 a) (k : Kp [a] H H4) {p : Addr} (np : H4 p = none) (s : StepV (upd H4 p (.tup t)) (.ref p) l) (hm : ∀ b n, l = some (b, n) → n ∈ lks) :
    ∃ ys, (upd H4 p (.tup t)) o = some (.lst ys) ∧ ys.length < sizeLine ∧ BalInv a lk z lks m o hq H (i + 1) [some (.ref a), some (.str z), some (.ref lk), some (.int m), some (.ref o), some (.ref hq), c1, c2, c3, c4] (upd (upd H4 p (.tup t)) o (.lst (ys ++ [.ref p]))) := by
  have g := add_new (ys := xs ++ [.ref p]) ho hx np s hm
  refine ⟨xs, g.1, smallL (by omega), xs ++ [.ref p], hs, _, _, _, _, rfl, upd_same, ?_, hsub, hsl, g.2, by rw [List.length_append, List.length_singleton, hn], ?_, (k.trans (Kp.new np).of0).wr no⟩
  · rw [upd_ne (Ne.symm oq), upd_ne (ne_of_none hh np)]; exact hh
  · exact (R.up (R.ne np)).up fun z => hao (by rw [z]; exact List.mem_cons_self)
theorem bal_oth {a lk : Addr} {z : Str} {lks : List Str} {m : Int} {o hq : Addr} {H H4 : Hp} {i : Nat} {xs : List V} {hs : List Str} {v : V} {c1 c2 c3 c4 : Option V} (oq : o ≠ hq) (hao : o ∉ [a]) (no : H o = none) (ho : H4 o = some (.lst xs)) (hh : H4 hq = some (.lst (hs.map V.str)))
    (hsub : ∀ y ∈ hs, y ∈ lks) (hsl : hs.length ≤ i + 1) (hx : StepsIn H4 lks xs) (hn : xs.length = i) (hi : i ≤ 100) (R : RowAt H4 a) (k : Kp [a] H H4) (s : StepV H4 v none) :
    ∃ ys, H4 o = some (.lst ys) ∧ ys.length < sizeLine ∧ BalInv a lk z lks m o hq H (i + 1) [some (.ref a), some (.str z), some (.ref lk), some (.int m), some (.ref o), some (.ref hq), c1, c2, c3, c4] (upd H4 o (.lst (ys ++ [v]))) := by
  refine ⟨xs, ho, smallL (by omega), xs ++ [v], hs, _, _, _, _, rfl, upd_same, ?_, hsub, hsl, ?_, by rw [List.length_append, List.length_singleton, hn], ?_, k.wr no⟩
  · rw [upd_ne (Ne.symm oq)]; exact hh
  · exact (hx.snoc s (fun b n z => nomatch z)).kpS ((Kp.refl [o] _).put (List.mem_singleton.mpr rfl)) fun b hb => by rw [List.mem_singleton.mp hb]; exact ⟨_, ho⟩
  · exact R.up fun z => hao (by rw [z]; exact List.mem_cons_self)
theorem ok_law_balanced {f : Addr} {fd : FuncData} (D : Df K mg "_law_balanced" s_law_balanced ["_law_row_here", "_law_name", "_law_locks", "_law_size_here"] f fd) (T : Bt0 mg) {fr : Addr} {fdr : FuncData} (D_law_draw : Df K mg "_law_draw" s_law_draw ["_law_row_here", "_law_many_here"] fr fdr) (G_law_draw : FnOk P w K mg base CX0 1 fr fdr ["_law_row_here", "_law_many_here"] spDraw)
    {fo : Addr} {fdo : FuncData} (D_law_other : Df K mg "_law_other" s_law_other ["_law_row_here", "_law_name"] fo fdo) (G_law_other : FnOk P w K mg base CX0 2 fo fdo ["_law_row_here", "_law_name"] spOther) : FnOk P w K mg base CX0 3 f fd ["_law_row_here", "_law_name", "_law_locks", "_law_size_here"] spMake := by
  refine D.F.ok sc_law_balanced (fun vs H Q E h => ?_) (fun cdv A outer s H vs Q E hr h => ?_)
  · obtain ⟨a, lk, z, lks, m, rfl, _⟩ := h
    rfl
  · obtain ⟨a, lk, z, lks, m, rfl, R, hz, hlk, hne, h0, hy, hl, m0, m1, q⟩ := h
    have sm : ∀ {n : Nat}, n ≤ 10 → n ≤ sizeLine := fun h => small (by omega)
    refine ⟨_, (pss_cons (ps_set (i := 4) sc_law_balanced.nd rfl (Or.inl rfl) (pe_lst pa_nil))
      (pss_cons (ps_set (i := 5) sc_law_balanced.nd rfl (Or.inl rfl) (pe_lst pa_nil))
      (pss_cons (ps_for PassesOwn.never rfl (pi_range1 rfl T.b_range (pa_cons (pv 3) pa_nil)) (pg_name (i := 6) sc_law_balanced.nd rfl (Or.inl rfl)) (pss_cons (ps_set (i := 7) sc_law_balanced.nd rfl (Or.inl rfl) (pe_op op_sub (pv 3) (pv 6)))
      (pss_cons (ps_set (i := 8) sc_law_balanced.nd rfl (Or.inl rfl) (pe_ix (r := rIxL K) ix_list (pv 2) (pe_call G_law_draw (hr.mono (by decide)) rfl D_law_draw.g D_law_draw.F.kp D_law_draw.b .nil pass0 (pa_cons (pv 0) (pa_cons (pe_callB (id := "len") (r := Evl.rLenS K) call_len_seq (by rfl) T.b_len PySem.boot_len (pa_cons (pv 2) pa_nil)) pa_nil))) (fun _ _ => rfl)))
      (pss_cons (ps_set (i := 9) sc_law_balanced.nd rfl (Or.inl rfl) (pe_call G_law_draw (hr.mono (by decide)) rfl D_law_draw.g D_law_draw.F.kp D_law_draw.b .nil pass0 (pa_cons (pv 0) (pa_cons pe_int pa_nil))))
      (pss_one (ps_if (pt_cmpR op_ge (pe_callB (id := "len") (r := Evl.rLenS K) call_len_seq (by rfl) T.b_len PySem.boot_len (pa_cons (pv 5) pa_nil)) (pv 7) (nomark _)) (pss_one (ps_expr (pe_bm PySem.F.plainAttrs_list PySem.F.slot_list_append PySem.F.type_list_append mt_append (pv 4) (pa_cons (pe_tup (pa_cons pe_str (pa_cons (pe_bm PySem.F.plainAttrs_list PySem.F.slot_list_pop PySem.F.type_list_pop mt_popAt (pv 5) (pa_cons (pe_call G_law_draw (hr.mono (by decide)) rfl D_law_draw.g D_law_draw.F.kp D_law_draw.b .nil pass0 (pa_cons (pv 0) (pa_cons (pe_callB (id := "len") (r := Evl.rLenS K) call_len_seq (by rfl) T.b_len PySem.boot_len (pa_cons (pv 5) pa_nil)) pa_nil))) pa_nil)) pa_nil))) pa_nil)))) (pss_one (ps_if (PW.pt (pw_and (pt_cmpR op_gt (pv 9) pe_int (nomark _)) (pw_and1 (pt_cmpR op_in_seq (pv 8) (pv 5) (by rfl))))) (pss_cons (ps_expr (pe_bm PySem.F.plainAttrs_list PySem.F.slot_list_remove PySem.F.type_list_remove mt_removeS (pv 5) (pa_cons (pv 8) pa_nil)))
      (pss_one (ps_expr (pe_bm PySem.F.plainAttrs_list PySem.F.slot_list_append PySem.F.type_list_append mt_append (pv 4) (pa_cons (pe_tup (pa_cons pe_str (pa_cons (pv 8) pa_nil))) pa_nil))))) (pss_one (ps_if (PW.pt (pw_and (pt_cmpR op_gt (pv 9) pe_int (nomark _)) (pw_and1 (pt_cmpR op_ge (pv 7) (pe_op op_add (pe_callB (id := "len") (r := Evl.rLenS K) call_len_seq (by rfl) T.b_len PySem.boot_len (pa_cons (pv 5) pa_nil)) pe_int) (nomark _))))) (pss_cons (ps_expr (pe_bm PySem.F.plainAttrs_list PySem.F.slot_list_append PySem.F.type_list_append mt_append (pv 5) (pa_cons (pv 8) pa_nil)))
      (pss_one (ps_expr (pe_bm PySem.F.plainAttrs_list PySem.F.slot_list_append PySem.F.type_list_append mt_append (pv 4) (pa_cons (pe_tup (pa_cons pe_str (pa_cons (pv 8) pa_nil))) pa_nil))))) (pss_one (ps_expr (pe_bm PySem.F.plainAttrs_list PySem.F.slot_list_append PySem.F.type_list_append mt_append (pv 4) (pa_cons (pe_call G_law_other (hr.mono (by decide)) rfl D_law_other.g D_law_other.F.kp D_law_other.b .nil pass0 (pa_cons (pv 0) (pa_cons (pv 1) pa_nil))) pa_nil))))))))))))))
      (pss_one (ps_ret (pv 4)))))), ?_⟩
    simp only [tSeq, tIfS, tTest, tOp, tUn, tCB, tCons, tNil, tVar, tC, rI0, rI, rU, rEq, rNe, tRet, tRetN, tAsg, gName, gSub, tBM, tBM0, tNext, tB, tNot, tAnd, tOr, tIf, tCall, tDrop, tBreak, tCont, L2.start, tDGet, sDPut, tTup, tLst, tDNewK, tRevL, rCat, rAppend, rPop, rSetL, tAndV, tOrV, tNotV, tSl, tPart, tNoPart, tM1, gTup, gCons, gNil, cxK, cxnK, List.map_cons, List.map_nil, List.length_cons, List.length_nil, List.replicate, List.cons_append, List.nil_append, List.append_nil, List.set_cons_zero, List.set_cons_succ, List.getElem?_cons_zero, List.getElem?_cons_succ, Option.some.injEq, V.ref.injEq, V.int.injEq, V.str.injEq, V.bl.injEq, V.ty.injEq, exists_eq_left', exists_eq_left, exists_and_left, List.cons.injEq, and_true, true_and, sc_ii, sc_ss, sc_bb, sc_ni, sc_in, sc_is, sc_si, sc_nn, decide_true, decide_false, reduceCtorEq, Bool.false_eq_true, if_true, if_false, ite_true, ite_false, exists_const, eq_self, false_and, and_false, or_false, false_or, exists_false, Evl.rLenS, rSum, wipe, tYes, exists_eq, exists_eq', rIxL, rIxT, rIxS, exists_and_right, gt_iff_lt, not_true_eq_false, not_false_eq_true, Bool.not_true, Bool.not_false, decide_eq_true_eq, Nat.reduceSub, Nat.reduceAdd, List.append_assoc, tChain, tDIn, tDNotIn, sDDel, tAug, ipI]
    refine ⟨sm (by decide), fun o no => ⟨sm (by decide), fun hq nq => ?_⟩⟩
    have oq : o ≠ hq := fun z => by rw [← z, upd_same] at nq; cases nq
    have ho0 : upd (upd H o (.lst [])) hq (.lst []) o = some (.lst []) := by rw [upd_ne oq]; exact upd_same
    have nqH : H hq = none := by
      rw [upd_ne (Ne.symm oq)] at nq; exact nq
    have k0 : Kp [a] H (upd (upd H o (.lst [])) hq (.lst [])) := ((Kp.new no).of0.trans (Kp.new nq).of0)
    have Ro := R.up (o := .lst []) (R.ne no)
    have aq : hq ∉ [a] := not1 (Ro.ne nq).symm
    have hao : o ∉ [a] := not1 (R.ne no).symm
    refine ⟨.int m, rfl, m, rfl, by omega, by omega, for_range (lo := 0) (n := m.toNat) (BalInv a lk z lks m o hq H) ⟨[], [], _, _, _, _, rfl, ho0, upd_same, (fun y hy => nomatch hy), Nat.le_refl _, (fun x hx => nomatch hx), rfl, Ro.up (Ro.ne nq), k0⟩ ?_ ?_⟩
    · rintro i σ H1 hi ⟨xs, hs, c1, c2, c3, c4, rfl, ho, hh, hsub, hsl, hx, hn, R1, k1⟩
      have hlk1 := k1 _ _ (not1 hne) hlk
      simp only [tSeq, tIfS, tTest, tOp, tUn, tCB, tCons, tNil, tVar, tC, rI0, rI, rU, rEq, rNe, tRet, tRetN, tAsg, gName, gSub, tBM, tBM0, tNext, tB, tNot, tAnd, tOr, tIf, tCall, tDrop, tBreak, tCont, L2.start, tDGet, sDPut, tTup, tLst, tDNewK, tRevL, rCat, rAppend, rPop, rSetL, tAndV, tOrV, tNotV, tSl, tPart, tNoPart, tM1, gTup, gCons, gNil, cxK, cxnK, List.map_cons, List.map_nil, List.length_cons, List.length_nil, List.replicate, List.cons_append, List.nil_append, List.append_nil, List.set_cons_zero, List.set_cons_succ, List.getElem?_cons_zero, List.getElem?_cons_succ, Option.some.injEq, V.ref.injEq, V.int.injEq, V.str.injEq, V.bl.injEq, V.ty.injEq, exists_eq_left', exists_eq_left, exists_and_left, List.cons.injEq, and_true, true_and, sc_ii, sc_ss, sc_bb, sc_ni, sc_in, sc_is, sc_si, sc_nn, decide_true, decide_false, reduceCtorEq, Bool.false_eq_true, if_true, if_false, ite_true, ite_false, exists_const, eq_self, false_and, and_false, or_false, false_or, exists_false, Evl.rLenS, rSum, wipe, tYes, exists_eq, exists_eq', rIxL, rIxT, rIxS, exists_and_right, gt_iff_lt, not_true_eq_false, not_false_eq_true, Bool.not_true, Bool.not_false, decide_eq_true_eq, Nat.reduceSub, Nat.reduceAdd, List.append_assoc, tChain, tDIn, tDNotIn, sDDel, tAug, ipI]
      refine ⟨_, .inl (sq_l hlk1), ?_⟩
      rw [List.length_map]
      refine ⟨a, _, rfl, R1, pos_len h0, fun j H2 j0 j1 R2 k2 => ?_⟩
      simp only [tSeq, tIfS, tTest, tOp, tUn, tCB, tCons, tNil, tVar, tC, rI0, rI, rU, rEq, rNe, tRet, tRetN, tAsg, gName, gSub, tBM, tBM0, tNext, tB, tNot, tAnd, tOr, tIf, tCall, tDrop, tBreak, tCont, L2.start, tDGet, sDPut, tTup, tLst, tDNewK, tRevL, rCat, rAppend, rPop, rSetL, tAndV, tOrV, tNotV, tSl, tPart, tNoPart, tM1, gTup, gCons, gNil, cxK, cxnK, List.map_cons, List.map_nil, List.length_cons, List.length_nil, List.replicate, List.cons_append, List.nil_append, List.append_nil, List.set_cons_zero, List.set_cons_succ, List.getElem?_cons_zero, List.getElem?_cons_succ, Option.some.injEq, V.ref.injEq, V.int.injEq, V.str.injEq, V.bl.injEq, V.ty.injEq, exists_eq_left', exists_eq_left, exists_and_left, List.cons.injEq, and_true, true_and, sc_ii, sc_ss, sc_bb, sc_ni, sc_in, sc_is, sc_si, sc_nn, decide_true, decide_false, reduceCtorEq, Bool.false_eq_true, if_true, if_false, ite_true, ite_false, exists_const, eq_self, false_and, and_false, or_false, false_or, exists_false, Evl.rLenS, rSum, wipe, tYes, exists_eq, exists_eq', rIxL, rIxT, rIxS, exists_and_right, gt_iff_lt, not_true_eq_false, not_false_eq_true, Bool.not_true, Bool.not_false, decide_eq_true_eq, Nat.reduceSub, Nat.reduceAdd, List.append_assoc, tChain, tDIn, tDNotIn, sDDel, tAug, ipI]
      have hlk2 := k2 _ _ (not1 hne) hlk1
      obtain ⟨y, hym, ey⟩ := atI_ex (xs := lks.map V.str) j0 (by rw [List.length_map]; exact j1)
      obtain ⟨u, hu, rfl⟩ := List.mem_map.mp hym
      refine ⟨_, sq_l hlk2, _, ey, ?_⟩
      refine ⟨a, 3, rfl, R2, by decide, fun r H3 r0 r1 R3 k3 => ?_⟩
      have k13 := (k1.trans k2).trans k3
      have ho3 := k3 _ _ hao (k2 _ _ hao ho)
      have hh3 := k3 _ _ aq (k2 _ _ aq hh)
      have hx3 := (hx.kpS k2 R1.l1).kpS k3 R2.l1
      have sz : xs.length < sizeLine := smallL (by omega)
      have up : ∀ {H4 : Hp} {ys : List V}, RowAt H4 a → RowAt (upd H4 o (.lst ys)) a := fun r => r.up (fun z => hao (by rw [z]; exact List.mem_cons_self))
      have upq : ∀ {H4 : Hp} {ys : List V}, RowAt H4 a → RowAt (upd H4 hq (.lst ys)) a := fun r => r.up (fun z => aq (by rw [z]; exact List.mem_cons_self))
      simp only [tSeq, tIfS, tTest, tOp, tUn, tCB, tCons, tNil, tVar, tC, rI0, rI, rU, rEq, rNe, tRet, tRetN, tAsg, gName, gSub, tBM, tBM0, tNext, tB, tNot, tAnd, tOr, tIf, tCall, tDrop, tBreak, tCont, L2.start, tDGet, sDPut, tTup, tLst, tDNewK, tRevL, rCat, rAppend, rPop, rSetL, tAndV, tOrV, tNotV, tSl, tPart, tNoPart, tM1, gTup, gCons, gNil, cxK, cxnK, List.map_cons, List.map_nil, List.length_cons, List.length_nil, List.replicate, List.cons_append, List.nil_append, List.append_nil, List.set_cons_zero, List.set_cons_succ, List.getElem?_cons_zero, List.getElem?_cons_succ, Option.some.injEq, V.ref.injEq, V.int.injEq, V.str.injEq, V.bl.injEq, V.ty.injEq, exists_eq_left', exists_eq_left, exists_and_left, List.cons.injEq, and_true, true_and, sc_ii, sc_ss, sc_bb, sc_ni, sc_in, sc_is, sc_si, sc_nn, decide_true, decide_false, reduceCtorEq, Bool.false_eq_true, if_true, if_false, ite_true, ite_false, exists_const, eq_self, false_and, and_false, or_false, false_or, exists_false, Evl.rLenS, rSum, wipe, tYes, exists_eq, exists_eq', rIxL, rIxT, rIxS, exists_and_right, gt_iff_lt, not_true_eq_false, not_false_eq_true, Bool.not_true, Bool.not_false, decide_eq_true_eq, Nat.reduceSub, Nat.reduceAdd, List.append_assoc, tChain, tDIn, tDNotIn, sDDel, tAug, ipI]
      refine ⟨_, .inl (sq_l hh3), ?_⟩
      rw [List.length_map]
      refine ite2 (fun h => ?_) (fun h => ?_)
      · have hpos : 0 < hs.length := by omega
        refine ⟨.inl ⟨rfl, _, sq_l ho3⟩, .inl ⟨rfl, _, sq_l hh3⟩, _, .inl (sq_l hh3), ?_⟩
        rw [List.length_map]
        refine ⟨a, _, rfl, R3, by omega, fun g H4 g0 g1 R4 k4 => ?_⟩
        have hh4 := k4 _ _ aq hh3
        have ho4 := k4 _ _ hao ho3
        have gl : g.toNat < hs.length := by omega
        have ev : (hs.map V.str)[g.toNat]? = some (.str hs[g.toNat]) := by rw [List.getElem?_map, List.getElem?_eq_getElem gl]; rfl
        have si : seqIndex? g (hs.map V.str).length = some g.toNat := seqIndex_of g0 (by rw [List.length_map]; exact g1)
        refine ⟨hq, _, g, g.toNat, _, rfl, rfl, hh4, by omega, by omega, si, ev, sm (by decide), fun p np => ?_⟩
        have ho5 : upd H4 hq (.lst ((hs.map V.str).eraseIdx g.toNat)) o = some (.lst xs) := by rw [upd_ne oq]; exact ho4
        refine bal_add (hs := hs.eraseIdx g.toNat) oq hao no ho5 (by rw [upd_same, erase_mapS]) (fun y hyy => hsub y (List.mem_of_mem_eraseIdx hyy)) (Nat.le_trans (List.length_eraseIdx_le _ _) (by omega)) ((hx3.kpS k4 R3.l1).kpS ((Kp.refl [hq] _).put (List.mem_singleton.mpr rfl)) fun b hb => by rw [List.mem_singleton.mp hb]; exact ⟨_, hh4⟩) hn (by omega) (upq R4) ((k13.trans k4).wr nqH) np (mk_free upd_same (hy _ (hsub _ (List.getElem_mem gl)))) (fun b n z => by cases z; exact hsub _ (List.getElem_mem gl))
      refine ite2 (fun h2 => ?_) (fun h2 => ?_)
      · refine ⟨hq, _, rfl, .inl (sq_l hh3), rfl, by rw [List.all_map]; exact List.all_eq_true.mpr fun _ _ => rfl, ?_⟩
        simp only [tSeq, tIfS, tTest, tOp, tUn, tCB, tCons, tNil, tVar, tC, rI0, rI, rU, rEq, rNe, tRet, tRetN, tAsg, gName, gSub, tBM, tBM0, tNext, tB, tNot, tAnd, tOr, tIf, tCall, tDrop, tBreak, tCont, L2.start, tDGet, sDPut, tTup, tLst, tDNewK, tRevL, rCat, rAppend, rPop, rSetL, tAndV, tOrV, tNotV, tSl, tPart, tNoPart, tM1, gTup, gCons, gNil, cxK, cxnK, List.map_cons, List.map_nil, List.length_cons, List.length_nil, List.replicate, List.cons_append, List.nil_append, List.append_nil, List.set_cons_zero, List.set_cons_succ, List.getElem?_cons_zero, List.getElem?_cons_succ, Option.some.injEq, V.ref.injEq, V.int.injEq, V.str.injEq, V.bl.injEq, V.ty.injEq, exists_eq_left', exists_eq_left, exists_and_left, List.cons.injEq, and_true, true_and, sc_ii, sc_ss, sc_bb, sc_ni, sc_in, sc_is, sc_si, sc_nn, decide_true, decide_false, reduceCtorEq, Bool.false_eq_true, if_true, if_false, ite_true, ite_false, exists_const, eq_self, false_and, and_false, or_false, false_or, exists_false, Evl.rLenS, rSum, wipe, tYes, exists_eq, exists_eq', rIxL, rIxT, rIxS, exists_and_right, gt_iff_lt, not_true_eq_false, not_false_eq_true, Bool.not_true, Bool.not_false, decide_eq_true_eq, Nat.reduceSub, Nat.reduceAdd, List.append_assoc, tChain, tDIn, tDNotIn, sDDel, tAug, ipI]
        refine ite2 (fun h3 => ?_) (fun h3 => ?_)
        · have hmem : u ∈ hs := by
            unfold inV at h3
            rw [List.any_map, List.any_eq_true] at h3
            obtain ⟨y, hy1, hy2⟩ := h3
            have e : y = u := beq_iff_eq.mp hy2
            rw [← e]; exact hy1
          obtain ⟨jj, h1, h2'⟩ := first_at hmem
          refine ⟨.inl ⟨rfl, _, sq_l hh3⟩, hq, hs, u, jj, rfl, rfl, hh3, h1, h2', .inl ⟨rfl, _, sq_l (by rw [upd_ne oq]; exact ho3)⟩, sm (by decide), fun p np => ?_⟩
          have ho5 : upd H3 hq (.lst ((hs.eraseIdx jj).map V.str)) o = some (.lst xs) := by rw [upd_ne oq]; exact ho3
          exact bal_add (hs := hs.eraseIdx jj) oq hao no ho5 upd_same (fun y hyy => hsub y (List.mem_of_mem_eraseIdx hyy)) (Nat.le_trans (List.length_eraseIdx_le _ _) (by omega)) (hx3.kpS ((Kp.refl [hq] _).put (List.mem_singleton.mpr rfl)) fun b hb => by rw [List.mem_singleton.mp hb]; exact ⟨_, hh3⟩) hn (by omega) (upq R3) (k13.wr nqH) np (mk_free upd_same (hy u hu)) (fun b n z => by cases z; exact hu)
        · rw [if_pos h2]
          refine ⟨_, .inl (sq_l hh3), ?_⟩
          refine ite2 (fun h => ?_) (fun h => ?_)
          · refine ⟨.inl ⟨rfl, _, sq_l hh3⟩, _, hh3, by rw [List.length_map]; exact smallL (by omega), .inl ⟨rfl, _, sq_l (by rw [upd_ne oq]; exact ho3)⟩, sm (by decide), fun p np => ?_⟩
            have ho5 : upd H3 hq (.lst (hs.map V.str ++ [V.str u])) o = some (.lst xs) := by rw [upd_ne oq]; exact ho3
            refine bal_add (hs := hs ++ [u]) oq hao no ho5 (by rw [upd_same, List.map_append]; rfl) (fun y hyy => ?_) (by rw [List.length_append, List.length_singleton]; omega) (hx3.kpS ((Kp.refl [hq] _).put (List.mem_singleton.mpr rfl)) fun b hb => by rw [List.mem_singleton.mp hb]; exact ⟨_, hh3⟩) hn (by omega) (upq R3) (k13.wr nqH) np (mk_lock upd_same (hy u hu)) (fun b n z => by cases z; exact hu)
            rcases List.mem_append.mp hyy with q | q
            · exact hsub y q
            · rw [List.mem_singleton.mp q]; exact hu
          · refine ⟨.inl ⟨rfl, _, sq_l ho3⟩, a, z, rfl, R3, hz, fun v H4 sv R4 k4 => ?_⟩
            exact bal_oth oq hao no (k4 _ _ hao ho3) (k4 _ _ aq hh3) hsub (by omega) (hx3.kpS k4 R3.l1) hn (by omega) R4 (k13.trans k4) sv
      · rw [if_neg h2]
        refine ⟨.inl ⟨rfl, _, sq_l ho3⟩, a, z, rfl, R3, hz, fun v H4 sv R4 k4 => ?_⟩
        exact bal_oth oq hao no (k4 _ _ hao ho3) (k4 _ _ aq hh3) hsub (by omega) (hx3.kpS k4 R3.l1) hn (by omega) R4 (k13.trans k4) sv
    · rintro σ H1 ⟨xs, hs, c1, c2, c3, c4, rfl, ho, hh, hsub, hsl, hx, hn, R1, k1⟩
      simp only [tSeq, tIfS, tTest, tOp, tUn, tCB, tCons, tNil, tVar, tC, rI0, rI, rU, rEq, rNe, tRet, tRetN, tAsg, gName, gSub, tBM, tBM0, tNext, tB, tNot, tAnd, tOr, tIf, tCall, tDrop, tBreak, tCont, L2.start, tDGet, sDPut, tTup, tLst, tDNewK, tRevL, rCat, rAppend, rPop, rSetL, tAndV, tOrV, tNotV, tSl, tPart, tNoPart, tM1, gTup, gCons, gNil, cxK, cxnK, List.map_cons, List.map_nil, List.length_cons, List.length_nil, List.replicate, List.cons_append, List.nil_append, List.append_nil, List.set_cons_zero, List.set_cons_succ, List.getElem?_cons_zero, List.getElem?_cons_succ, Option.some.injEq, V.ref.injEq, V.int.injEq, V.str.injEq, V.bl.injEq, V.ty.injEq, exists_eq_left', exists_eq_left, exists_and_left, List.cons.injEq, and_true, true_and, sc_ii, sc_ss, sc_bb, sc_ni, sc_in, sc_is, sc_si, sc_nn, decide_true, decide_false, reduceCtorEq, Bool.false_eq_true, if_true, if_false, ite_true, ite_false, exists_const, eq_self, false_and, and_false, or_false, false_or, exists_false, Evl.rLenS, rSum, wipe, tYes, exists_eq, exists_eq', rIxL, rIxT, rIxS, exists_and_right, gt_iff_lt, not_true_eq_false, not_false_eq_true, Bool.not_true, Bool.not_false, decide_eq_true_eq, Nat.reduceSub, Nat.reduceAdd, List.append_assoc, tChain, tDIn, tDNotIn, sDDel, tAug, ipI]
      exact q o xs H1 no ho hx hn R1 k1
end
end My

set_option Elab.async false
set_option linter.all false
set_option maxRecDepth 100000
set_option maxHeartbeats 4000000
namespace My
open PySem L2 NdefX
abbrev s_law_many : Stmt := top 33
theorem sc_law_many : FnScope ["_law_steps", "_law_lock", "_law_many_here", "_law_step"] ["_law_steps", "_law_lock"] (defScope s_law_many) := ⟨rfl, rfl, rfl, by decide +kernel, rfl, by decide +kernel, by decide +kernel⟩
abbrev s_law_wrong : Stmt := top 34
theorem sc_law_wrong : FnScope ["_law_steps", "_law_locks", "_law_at", "_law_lock"] ["_law_steps", "_law_locks"] (defScope s_law_wrong) := ⟨rfl, rfl, rfl, by decide +kernel, rfl, by decide +kernel, by decide +kernel⟩
abbrev s_law_is_integer : Stmt := top 35
theorem sc_law_is_integer : FnScope ["_law_told"] ["_law_told"] (defScope s_law_is_integer) := ⟨rfl, rfl, rfl, by decide +kernel, rfl, by decide +kernel, by decide +kernel⟩
abbrev s_law_pair : Stmt := top 36
theorem sc_law_pair : FnScope ["_law_steps", "_law_depth", "_law_pair_here", "_law_behind", "_law_first", "_law_last", "_law_at"] ["_law_steps", "_law_depth", "_law_pair_here", "_law_behind"] (defScope s_law_pair) := ⟨rfl, rfl, rfl, by decide +kernel, rfl, by decide +kernel, by decide +kernel⟩
abbrev s_law_right : Stmt := top 37
theorem sc_law_right : FnScope ["_law_steps", "_law_told", "_law_depth", "_law_step", "_law_behind", "_law_pair_here", "_law_at"] ["_law_steps", "_law_told"] (defScope s_law_right) := ⟨rfl, rfl, rfl, by decide +kernel, rfl, by decide +kernel, by decide +kernel⟩
theorem cutV_mem {xs : List V} {lo hi : Option Int} {x : V} (h : x ∈ cutV xs lo hi) : x ∈ xs := by
  unfold cutV at h
  exact List.mem_of_mem_drop (List.mem_of_mem_take h)
theorem sIx_pos {n d : Nat} {i : Int} (h : 0 ≤ i) : HT.sIx n d (some i) = min i.toNat n := by
  have z := HT.sIx_nat n d i.toNat
  rwa [Int.toNat_of_nonneg h] at z
theorem cut_len {xs : List V} {lo hi : Option Int} : (cutV xs lo hi).length = min (HT.sIx xs.length xs.length hi - HT.sIx xs.length 0 lo) (xs.length - HT.sIx xs.length 0 lo) := by
  unfold cutV
  rw [List.length_take, List.length_drop]
theorem cut_to {xs : List V} {i : Int} (h : 0 ≤ i) : cutV xs none (some i) = xs.take i.toNat := by
  unfold cutV
  rw [sIx_pos h, HT.sIx_none, List.drop_zero, Nat.sub_zero]
  by_cases z : i.toNat ≤ xs.length
  · rw [Nat.min_eq_left z]
  · rw [Nat.min_eq_right (by omega), List.take_of_length_le (Nat.le_refl _), List.take_of_length_le (by omega)]
theorem StepsIn.sub {H : Hp} {lks : List Str} {xs ys : List V} (h : StepsIn H lks xs) (k : ∀ y ∈ ys, y ∈ xs) : StepsIn H lks ys := fun x hx => h x (k x hx)
theorem StepsIn.app {H : Hp} {lks : List Str} {xs ys : List V} (h : StepsIn H lks xs) (k : StepsIn H lks ys) : StepsIn H lks (xs ++ ys) := fun x hx => by
  rcases List.mem_append.mp hx with hx | hx
  · exact h x hx
  · exact k x hx
def spChanged : Sp := fun vs H Q _ => ∃ (a st lk : Addr) (xs : List V) (lks : List Str), vs = [.ref a, .ref st, .ref lk] ∧ RowAt H a ∧ H st = some (.lst xs) ∧ st ≠ a ∧ H lk = some (.lst (lks.map V.str)) ∧ lk ≠ a ∧ StepsIn H lks xs ∧ 1 ≤ xs.length ∧ xs.length ≤ 79 ∧ lks ≠ [] ∧ (∀ y ∈ lks, Nm y) ∧ lks.length ≤ 10 ∧
  ∀ (p : Addr) (ys : List V) (H' : Hp), H p = none → H' p = some (.lst ys) → StepsIn H' lks ys → 1 ≤ ys.length → ys.length ≤ 80 → RowAt H' a → Kp [a] H H' → Q (.ref p) H'
theorem StepsIn.kp0 {H H' : Hp} {lks : List Str} {xs : List V} (h : StepsIn H lks xs) (k : Kp [] H H') : StepsIn H' lks xs := h.kpS k fun a h => nomatch h
theorem RowAt.kp0 {H H' : Hp} {a : Addr} (h : RowAt H a) (k : Kp [] H H') : RowAt H' a := by
  obtain ⟨ns, e, r⟩ := h
  exact ⟨ns, k _ _ not0 e, r⟩
theorem chg_end {H H3 Hc : Hp} {a p : Addr} {lks : List Str} {ys : List V} (R : RowAt H3 a) (k13 : Kp [a] H H3) (k : Kp [] H3 Hc) (np : Hc p = none) (hs : StepsIn Hc lks ys) : H p = none ∧ StepsIn (upd Hc p (.lst ys)) lks ys ∧ RowAt (upd Hc p (.lst ys)) a ∧ Kp [a] H (upd Hc p (.lst ys)) := by
  have Rc := R.kp0 k
  have kc : Kp [a] H Hc := k13.trans k.of0
  exact ⟨kc.free np fun b hb => by rw [List.mem_singleton.mp hb]; exact Rc.some, hs.kp0 (Kp.new np), Rc.kp0 (Kp.new np), kc.trans (Kp.new np).of0⟩
theorem cut_len_to {xs : List V} {i : Int} (h : 0 ≤ i) (h2 : i < xs.length) : (cutV xs none (some i)).length = i.toNat := by
  rw [cut_to h, List.length_take]; omega
theorem cut_len_from {xs : List V} {i : Int} (h : 0 ≤ i) : (cutV xs (some i) none).length = xs.length - i.toNat := by
  rw [cut_len, sIx_pos h, HT.sIx_none]; omega
theorem cut_len_mid {xs : List V} {i : Int} (h : 0 ≤ i) : (cutV xs (some (i + 1)) (some (i + 2))).length ≤ 1 := by
  rw [cut_len, sIx_pos (by omega), sIx_pos (by omega)]; omega
section
variable {P : Program} {w : World} {K : PySem.W.Frag} {mg : Str → Option Value} {base : Heap}
theorem ok_law_changed {f : Addr} {fd : FuncData} (D : Df K mg "_law_changed" s_law_changed ["_law_row_here", "_law_steps", "_law_locks"] f fd) (T : Bt0 mg) {fr : Addr} {fdr : FuncData} (D_law_draw : Df K mg "_law_draw" s_law_draw ["_law_row_here", "_law_many_here"] fr fdr) (G_law_draw : FnOk P w K mg base CX0 1 fr fdr ["_law_row_here", "_law_many_here"] spDraw) : FnOk P w K mg base CX0 2 f fd ["_law_row_here", "_law_steps", "_law_locks"] spChanged := by
  refine D.F.ok sc_law_changed (fun vs H Q E h => ?_) (fun cdv A outer s H vs Q E hr h => ?_)
  · obtain ⟨a, st, lk, xs, lks, rfl, _⟩ := h
    rfl
  · obtain ⟨a, st, lk, xs, lks, rfl, R, hst, hsa, hlk, hla, hx, x1, x2, h0, hy, hl, q⟩ := h
    have sm : ∀ {n : Nat}, n ≤ 1000 → n ≤ sizeLine := fun h => small (by omega)
    refine ⟨_, (pss_cons (ps_set (i := 3) sc_law_changed.nd rfl (Or.inl rfl) (pe_call G_law_draw (hr.mono (by decide)) rfl D_law_draw.g D_law_draw.F.kp D_law_draw.b .nil pass0 (pa_cons (pv 0) (pa_cons (pe_callB (id := "len") (r := Evl.rLenS K) call_len_seq (by rfl) T.b_len PySem.boot_len (pa_cons (pv 1) pa_nil)) pa_nil))))
      (pss_cons (ps_set (i := 4) sc_law_changed.nd rfl (Or.inl rfl) (pe_call G_law_draw (hr.mono (by decide)) rfl D_law_draw.g D_law_draw.F.kp D_law_draw.b .nil pass0 (pa_cons (pv 0) (pa_cons pe_int pa_nil))))
      (pss_cons (ps_set (i := 5) sc_law_changed.nd rfl (Or.inl rfl) (pe_ix (r := rIxL K) ix_list (pv 2) (pe_call G_law_draw (hr.mono (by decide)) rfl D_law_draw.g D_law_draw.F.kp D_law_draw.b .nil pass0 (pa_cons (pv 0) (pa_cons (pe_callB (id := "len") (r := Evl.rLenS K) call_len_seq (by rfl) T.b_len PySem.boot_len (pa_cons (pv 2) pa_nil)) pa_nil))) (fun _ _ => rfl)))
      (pss_cons (ps_if (PW.pt (pw_and (pt_cmpR op_eq (pv 4) pe_int (nomark _)) (pw_and1 (pt_cmpR op_gt (pe_callB (id := "len") (r := Evl.rLenS K) call_len_seq (by rfl) T.b_len PySem.boot_len (pa_cons (pv 1) pa_nil)) pe_int (nomark _))))) (pss_one (ps_ret (pe_op op_cat (pe_slice sl_list (pv 1) po_none (po_some (pv 3))) (pe_slice sl_list (pv 1) (po_some (pe_op op_add (pv 3) pe_int)) po_none)))) pss_nil)
      (pss_cons (ps_if (pt_cmpR op_eq (pv 4) pe_int (nomark _)) (pss_one (ps_ret (pe_op op_cat (pe_op op_cat (pe_slice sl_list (pv 1) po_none (po_some (pv 3))) (pe_lst (pa_cons (pe_ix (r := rIxL K) ix_list (pv 1) (pv 3) (fun _ _ => rfl)) pa_nil))) (pe_slice sl_list (pv 1) (po_some (pv 3)) po_none)))) pss_nil)
      (pss_cons (ps_if (pt_cmpR op_eq (pv 4) pe_int (nomark _)) (pss_one (ps_ret (pe_op op_cat (pe_op op_cat (pe_slice sl_list (pv 1) po_none (po_some (pv 3))) (pe_lst (pa_cons (pe_tup (pa_cons pe_str (pa_cons (pv 5) pa_nil))) pa_nil))) (pe_slice sl_list (pv 1) (po_some (pe_op op_add (pv 3) pe_int)) po_none)))) pss_nil)
      (pss_cons (ps_if (pt_cmpR op_eq (pv 4) pe_int (nomark _)) (pss_one (ps_ret (pe_op op_cat (pe_op op_cat (pe_slice sl_list (pv 1) po_none (po_some (pv 3))) (pe_lst (pa_cons (pe_tup (pa_cons pe_str (pa_cons (pv 5) pa_nil))) pa_nil))) (pe_slice sl_list (pv 1) (po_some (pe_op op_add (pv 3) pe_int)) po_none)))) pss_nil)
      (pss_one (ps_ret (pe_op op_cat (pe_op op_cat (pe_op op_cat (pe_slice sl_list (pv 1) po_none (po_some (pv 3))) (pe_slice sl_list (pv 1) (po_some (pe_op op_add (pv 3) pe_int)) (po_some (pe_op op_add (pv 3) pe_int)))) (pe_lst (pa_cons (pe_ix (r := rIxL K) ix_list (pv 1) (pv 3) (fun _ _ => rfl)) pa_nil))) (pe_slice sl_list (pv 1) (po_some (pe_op op_add (pv 3) pe_int)) po_none))))))))))), ?_⟩
    simp only [tSeq, tIfS, tTest, tOp, tUn, tCB, tCons, tNil, tVar, tC, rI0, rI, rU, rEq, rNe, tRet, tRetN, tAsg, gName, gSub, tBM, tBM0, tNext, tB, tNot, tAnd, tOr, tIf, tCall, tDrop, tBreak, tCont, L2.start, tDGet, sDPut, tTup, tLst, tDNewK, tRevL, rCat, rAppend, rPop, rSetL, tAndV, tOrV, tNotV, tSl, tPart, tNoPart, tM1, gTup, gCons, gNil, cxK, cxnK, List.map_cons, List.map_nil, List.length_cons, List.length_nil, List.replicate, List.cons_append, List.nil_append, List.append_nil, List.set_cons_zero, List.set_cons_succ, List.getElem?_cons_zero, List.getElem?_cons_succ, Option.some.injEq, V.ref.injEq, V.int.injEq, V.str.injEq, V.bl.injEq, V.ty.injEq, exists_eq_left', exists_eq_left, exists_and_left, List.cons.injEq, and_true, true_and, sc_ii, sc_ss, sc_bb, sc_ni, sc_in, sc_is, sc_si, sc_nn, decide_true, decide_false, reduceCtorEq, Bool.false_eq_true, if_true, if_false, ite_true, ite_false, exists_const, eq_self, false_and, and_false, or_false, false_or, exists_false, Evl.rLenS, rSum, wipe, tYes, exists_eq, exists_eq', rIxL, rIxT, rIxS, exists_and_right, gt_iff_lt, not_true_eq_false, not_false_eq_true, Bool.not_true, Bool.not_false, decide_eq_true_eq, Nat.reduceSub, Nat.reduceAdd, List.append_assoc, tChain, tDIn, tDNotIn, sDDel, tAug, ipI]
    refine ⟨xs, .inl (sq_l hst), a, _, rfl, R, by omega, fun i H1 i0 i1 R1 k1 => ?_⟩
    simp only [tSeq, tIfS, tTest, tOp, tUn, tCB, tCons, tNil, tVar, tC, rI0, rI, rU, rEq, rNe, tRet, tRetN, tAsg, gName, gSub, tBM, tBM0, tNext, tB, tNot, tAnd, tOr, tIf, tCall, tDrop, tBreak, tCont, L2.start, tDGet, sDPut, tTup, tLst, tDNewK, tRevL, rCat, rAppend, rPop, rSetL, tAndV, tOrV, tNotV, tSl, tPart, tNoPart, tM1, gTup, gCons, gNil, cxK, cxnK, List.map_cons, List.map_nil, List.length_cons, List.length_nil, List.replicate, List.cons_append, List.nil_append, List.append_nil, List.set_cons_zero, List.set_cons_succ, List.getElem?_cons_zero, List.getElem?_cons_succ, Option.some.injEq, V.ref.injEq, V.int.injEq, V.str.injEq, V.bl.injEq, V.ty.injEq, exists_eq_left', exists_eq_left, exists_and_left, List.cons.injEq, and_true, true_and, sc_ii, sc_ss, sc_bb, sc_ni, sc_in, sc_is, sc_si, sc_nn, decide_true, decide_false, reduceCtorEq, Bool.false_eq_true, if_true, if_false, ite_true, ite_false, exists_const, eq_self, false_and, and_false, or_false, false_or, exists_false, Evl.rLenS, rSum, wipe, tYes, exists_eq, exists_eq', rIxL, rIxT, rIxS, exists_and_right, gt_iff_lt, not_true_eq_false, not_false_eq_true, Bool.not_true, Bool.not_false, decide_eq_true_eq, Nat.reduceSub, Nat.reduceAdd, List.append_assoc, tChain, tDIn, tDNotIn, sDDel, tAug, ipI]
    refine ⟨a, 5, rfl, R1, by decide, fun r H2 r0 r1 R2 k2 => ?_⟩
    simp only [tSeq, tIfS, tTest, tOp, tUn, tCB, tCons, tNil, tVar, tC, rI0, rI, rU, rEq, rNe, tRet, tRetN, tAsg, gName, gSub, tBM, tBM0, tNext, tB, tNot, tAnd, tOr, tIf, tCall, tDrop, tBreak, tCont, L2.start, tDGet, sDPut, tTup, tLst, tDNewK, tRevL, rCat, rAppend, rPop, rSetL, tAndV, tOrV, tNotV, tSl, tPart, tNoPart, tM1, gTup, gCons, gNil, cxK, cxnK, List.map_cons, List.map_nil, List.length_cons, List.length_nil, List.replicate, List.cons_append, List.nil_append, List.append_nil, List.set_cons_zero, List.set_cons_succ, List.getElem?_cons_zero, List.getElem?_cons_succ, Option.some.injEq, V.ref.injEq, V.int.injEq, V.str.injEq, V.bl.injEq, V.ty.injEq, exists_eq_left', exists_eq_left, exists_and_left, List.cons.injEq, and_true, true_and, sc_ii, sc_ss, sc_bb, sc_ni, sc_in, sc_is, sc_si, sc_nn, decide_true, decide_false, reduceCtorEq, Bool.false_eq_true, if_true, if_false, ite_true, ite_false, exists_const, eq_self, false_and, and_false, or_false, false_or, exists_false, Evl.rLenS, rSum, wipe, tYes, exists_eq, exists_eq', rIxL, rIxT, rIxS, exists_and_right, gt_iff_lt, not_true_eq_false, not_false_eq_true, Bool.not_true, Bool.not_false, decide_eq_true_eq, Nat.reduceSub, Nat.reduceAdd, List.append_assoc, tChain, tDIn, tDNotIn, sDDel, tAug, ipI]
    have k12 := k1.trans k2
    have hlk2 := k12 _ _ (not1 hla) hlk
    refine ⟨_, .inl (sq_l hlk2), ?_⟩
    rw [List.length_map]
    refine ⟨a, _, rfl, R2, pos_len h0, fun j H3 j0 j1 R3 k3 => ?_⟩
    simp only [tSeq, tIfS, tTest, tOp, tUn, tCB, tCons, tNil, tVar, tC, rI0, rI, rU, rEq, rNe, tRet, tRetN, tAsg, gName, gSub, tBM, tBM0, tNext, tB, tNot, tAnd, tOr, tIf, tCall, tDrop, tBreak, tCont, L2.start, tDGet, sDPut, tTup, tLst, tDNewK, tRevL, rCat, rAppend, rPop, rSetL, tAndV, tOrV, tNotV, tSl, tPart, tNoPart, tM1, gTup, gCons, gNil, cxK, cxnK, List.map_cons, List.map_nil, List.length_cons, List.length_nil, List.replicate, List.cons_append, List.nil_append, List.append_nil, List.set_cons_zero, List.set_cons_succ, List.getElem?_cons_zero, List.getElem?_cons_succ, Option.some.injEq, V.ref.injEq, V.int.injEq, V.str.injEq, V.bl.injEq, V.ty.injEq, exists_eq_left', exists_eq_left, exists_and_left, List.cons.injEq, and_true, true_and, sc_ii, sc_ss, sc_bb, sc_ni, sc_in, sc_is, sc_si, sc_nn, decide_true, decide_false, reduceCtorEq, Bool.false_eq_true, if_true, if_false, ite_true, ite_false, exists_const, eq_self, false_and, and_false, or_false, false_or, exists_false, Evl.rLenS, rSum, wipe, tYes, exists_eq, exists_eq', rIxL, rIxT, rIxS, exists_and_right, gt_iff_lt, not_true_eq_false, not_false_eq_true, Bool.not_true, Bool.not_false, decide_eq_true_eq, Nat.reduceSub, Nat.reduceAdd, List.append_assoc, tChain, tDIn, tDNotIn, sDDel, tAug, ipI]
    have k13 := k12.trans k3
    have hlk3 := k13 _ _ (not1 hla) hlk
    have hst3 := k13 _ _ (not1 hsa) hst
    have hx3 := hx.kpS k13 R.l1
    obtain ⟨y, hym, ey⟩ := atI_ex (xs := lks.map V.str) j0 (by rw [List.length_map]; exact j1)
    obtain ⟨u, hu, rfl⟩ := List.mem_map.mp hym
    refine ⟨_, sq_l hlk3, _, ey, ?_⟩
    have hxc : ∀ lo hi, StepsIn H3 lks (cutV xs lo hi) := fun lo hi => hx3.sub fun y hyy => cutV_mem hyy
    obtain ⟨v, hv, ev⟩ := atI_ex (xs := xs) i0 i1
    have l1 := cut_len_to i0 i1
    have l2 := cut_len_from (xs := xs) i0
    have l3 := cut_len_from (xs := xs) (i := i + 1) (by omega)
    have l4 := cut_len_from (xs := xs) (i := i + 2) (by omega)
    have l5 := cut_len_mid (xs := xs) i0
    have rest4 : ∀ G : Prop, r ≠ 1 → r ≠ 2 → r ≠ 3 → G → G := fun G _ _ _ g => g
    refine ite2 (fun h => ?_) (fun h => ?_)
    · refine ⟨xs, .inl (sq_l hst3), ?_⟩
      refine ite2 (fun h1 => ?_) (fun h1 => ?_)
      · refine ⟨st, xs, rfl, sq_l hst3, fun l nl => ?_⟩
        refine ⟨st, xs, rfl, sq_l ((Kp.new nl (S := [])) _ _ not0 hst3), fun e ne => ?_⟩
        refine ⟨l, rfl, e, rfl, _, (Kp.new ne (S := [])) _ _ not0 upd_same, _, upd_same, sm (by omega), fun p np => ?_⟩
        have k9 := (Kp.new nl (S := []) (o := .lst (cutV xs none (some i)))).trans (Kp.new ne (S := []) (o := .lst (cutV xs (some (i + 1)) none)))
        have z := chg_end R3 k13 k9 np (lks := lks) (ys := cutV xs none (some i) ++ cutV xs (some (i + 1)) none) (((hxc _ _).app (hxc _ _)).kp0 k9)
        exact q p _ _ z.1 upd_same z.2.1 (by rw [List.length_append]; omega) (by rw [List.length_append]; omega) z.2.2.1 z.2.2.2
      · rw [if_neg (by omega), if_neg (by omega), if_neg (by omega)]
        refine ⟨st, xs, rfl, sq_l hst3, fun l nl => ?_⟩
        refine ⟨st, xs, rfl, sq_l ((Kp.new nl (S := [])) _ _ not0 hst3), fun e ne => ?_⟩
        refine ⟨l, rfl, e, rfl, _, (Kp.new ne (S := [])) _ _ not0 upd_same, _, upd_same, sm (by omega), fun g ng => ?_⟩
        have k6 := ((Kp.new nl (S := [])).trans (Kp.new ne (S := []))).trans (Kp.new ng (S := []) (o := .lst (cutV xs none (some i) ++ cutV xs (some (i + 1)) (some (i + 2)))))
        refine ⟨xs, sq_l (k6 _ _ not0 hst3), _, ev, sm (by decide), fun d nd => ?_⟩
        have k7 := k6.trans (Kp.new nd (S := []) (o := .lst [v]))
        refine ⟨_, (Kp.new nd (S := [])) _ _ not0 upd_same, _, upd_same, sm (by rw [List.length_append, List.length_singleton]; omega), fun c nc => ?_⟩
        have k8 := k7.trans (Kp.new nc (S := []) (o := .lst ((cutV xs none (some i) ++ cutV xs (some (i + 1)) (some (i + 2))) ++ [v])))
        refine ⟨st, xs, rfl, sq_l (k8 _ _ not0 hst3), fun b nb => ?_⟩
        have k9 := k8.trans (Kp.new nb (S := []) (o := .lst (cutV xs (some (i + 2)) none)))
        refine ⟨b, rfl, _, (Kp.new nb (S := [])) _ _ not0 upd_same, _, upd_same, sm (by simp only [List.length_append, List.length_singleton]; omega), fun p np => ?_⟩
        have z := chg_end R3 k13 k9 np (lks := lks) (ys := cutV xs none (some i) ++ cutV xs (some (i + 1)) (some (i + 2)) ++ [v] ++ cutV xs (some (i + 2)) none) ((((hxc _ _).app (hxc _ _)).app (hx3.sub fun y hyy => by rw [List.mem_singleton.mp hyy]; exact hv)).app (hxc _ _) |>.kp0 k9)
        exact q p _ _ z.1 upd_same z.2.1 (by simp only [List.length_append, List.length_singleton]; omega) (by simp only [List.length_append, List.length_singleton]; omega) z.2.2.1 z.2.2.2
    refine ite2 (fun h => ?_) (fun h => ?_)
    · refine ⟨st, xs, rfl, sq_l hst3, fun l nl => ?_⟩
      refine ⟨xs, sq_l ((Kp.new nl (S := [])) _ _ not0 hst3), _, ev, sm (by decide), fun d nd => ?_⟩
      refine ⟨l, rfl, _, (Kp.new nd (S := [])) _ _ not0 upd_same, _, upd_same, sm (by rw [List.length_singleton]; omega), fun c nc => ?_⟩
      have k8 := ((Kp.new nl (S := []) (o := .lst (cutV xs none (some i)))).trans (Kp.new nd (S := []) (o := .lst [v]))).trans (Kp.new nc (S := []) (o := .lst (cutV xs none (some i) ++ [v])))
      refine ⟨st, xs, rfl, sq_l (k8 _ _ not0 hst3), fun b nb => ?_⟩
      have k9 := k8.trans (Kp.new nb (S := []) (o := .lst (cutV xs (some i) none)))
      refine ⟨b, rfl, _, (Kp.new nb (S := [])) _ _ not0 upd_same, _, upd_same, sm (by simp only [List.length_append, List.length_singleton]; omega), fun p np => ?_⟩
      have z := chg_end R3 k13 k9 np (lks := lks) (ys := cutV xs none (some i) ++ [v] ++ cutV xs (some i) none) ((((hxc _ _).app (hx3.sub fun y hyy => by rw [List.mem_singleton.mp hyy]; exact hv)).app (hxc _ _)).kp0 k9)
      exact q p _ _ z.1 upd_same z.2.1 (by simp only [List.length_append, List.length_singleton]; omega) (by simp only [List.length_append, List.length_singleton]; omega) z.2.2.1 z.2.2.2
    refine ite2 (fun h => ?_) (fun h => ?_)
    · refine ⟨st, xs, rfl, sq_l hst3, fun l nl => ?_⟩
      refine ⟨sm (by decide), fun t nt => ⟨sm (by decide), fun d nd => ?_⟩⟩
      have ht := (Kp.new nd (S := []) (o := .lst [.ref t])) _ _ not0 (upd_same (H := upd H3 l (.lst (cutV xs none (some i)))) (a := t) (o := .tup [.str "free", .str u]))
      refine ⟨l, rfl, _, (Kp.new nd (S := [])) _ _ not0 ((Kp.new nt (S := [])) _ _ not0 upd_same), _, upd_same, sm (by rw [List.length_singleton]; omega), fun c nc => ?_⟩
      have k8 := (((Kp.new nl (S := [])).trans (Kp.new nt (S := []) (o := .tup [.str "free", .str u]))).trans (Kp.new nd (S := []) (o := .lst [.ref t]))).trans (Kp.new nc (S := []) (o := .lst (cutV xs none (some i) ++ [.ref t])))
      refine ⟨st, xs, rfl, sq_l (k8 _ _ not0 hst3), fun b nb => ?_⟩
      have k9 := k8.trans (Kp.new nb (S := []) (o := .lst (cutV xs (some (i + 1)) none)))
      have sv : StepV _ (.ref t) (some (false, u)) := (mk_free ht (hy u hu)).kp ((Kp.new nc (S := []) (o := .lst (cutV xs none (some i) ++ [.ref t]))).trans (Kp.new nb (S := []) (o := .lst (cutV xs (some (i + 1)) none))))
      refine ⟨b, rfl, _, (Kp.new nb (S := [])) _ _ not0 upd_same, _, upd_same, sm (by simp only [List.length_append, List.length_singleton]; omega), fun p np => ?_⟩
      have z := chg_end R3 k13 k9 np (lks := lks) (ys := cutV xs none (some i) ++ [.ref t] ++ cutV xs (some (i + 1)) none) ((((hxc _ _).kp0 k9).snoc sv fun b n z => by cases z; exact hu).app ((hxc _ _).kp0 k9))
      exact q p _ _ z.1 upd_same z.2.1 (by simp only [List.length_append, List.length_singleton]; omega) (by simp only [List.length_append, List.length_singleton]; omega) z.2.2.1 z.2.2.2
    refine ite2 (fun h => ?_) (fun h => ?_)
    · refine ⟨st, xs, rfl, sq_l hst3, fun l nl => ?_⟩
      refine ⟨sm (by decide), fun t nt => ⟨sm (by decide), fun d nd => ?_⟩⟩
      have ht := (Kp.new nd (S := []) (o := .lst [.ref t])) _ _ not0 (upd_same (H := upd H3 l (.lst (cutV xs none (some i)))) (a := t) (o := .tup [.str "lock", .str u]))
      refine ⟨l, rfl, _, (Kp.new nd (S := [])) _ _ not0 ((Kp.new nt (S := [])) _ _ not0 upd_same), _, upd_same, sm (by rw [List.length_singleton]; omega), fun c nc => ?_⟩
      have k8 := (((Kp.new nl (S := [])).trans (Kp.new nt (S := []) (o := .tup [.str "lock", .str u]))).trans (Kp.new nd (S := []) (o := .lst [.ref t]))).trans (Kp.new nc (S := []) (o := .lst (cutV xs none (some i) ++ [.ref t])))
      refine ⟨st, xs, rfl, sq_l (k8 _ _ not0 hst3), fun b nb => ?_⟩
      have k9 := k8.trans (Kp.new nb (S := []) (o := .lst (cutV xs (some (i + 1)) none)))
      have sv : StepV _ (.ref t) (some (true, u)) := (mk_lock ht (hy u hu)).kp ((Kp.new nc (S := []) (o := .lst (cutV xs none (some i) ++ [.ref t]))).trans (Kp.new nb (S := []) (o := .lst (cutV xs (some (i + 1)) none))))
      refine ⟨b, rfl, _, (Kp.new nb (S := [])) _ _ not0 upd_same, _, upd_same, sm (by simp only [List.length_append, List.length_singleton]; omega), fun p np => ?_⟩
      have z := chg_end R3 k13 k9 np (lks := lks) (ys := cutV xs none (some i) ++ [.ref t] ++ cutV xs (some (i + 1)) none) ((((hxc _ _).kp0 k9).snoc sv fun b n z => by cases z; exact hu).app ((hxc _ _).kp0 k9))
      exact q p _ _ z.1 upd_same z.2.1 (by simp only [List.length_append, List.length_singleton]; omega) (by simp only [List.length_append, List.length_singleton]; omega) z.2.2.1 z.2.2.2
    · refine ⟨st, xs, rfl, sq_l hst3, fun l nl => ?_⟩
      refine ⟨st, xs, rfl, sq_l ((Kp.new nl (S := [])) _ _ not0 hst3), fun e ne => ?_⟩
      refine ⟨l, rfl, e, rfl, _, (Kp.new ne (S := [])) _ _ not0 upd_same, _, upd_same, sm (by omega), fun g ng => ?_⟩
      have k6 := ((Kp.new nl (S := [])).trans (Kp.new ne (S := []))).trans (Kp.new ng (S := []) (o := .lst (cutV xs none (some i) ++ cutV xs (some (i + 1)) (some (i + 2)))))
      refine ⟨xs, sq_l (k6 _ _ not0 hst3), _, ev, sm (by decide), fun d nd => ?_⟩
      have k7 := k6.trans (Kp.new nd (S := []) (o := .lst [v]))
      refine ⟨_, (Kp.new nd (S := [])) _ _ not0 upd_same, _, upd_same, sm (by rw [List.length_append, List.length_singleton]; omega), fun c nc => ?_⟩
      have k8 := k7.trans (Kp.new nc (S := []) (o := .lst ((cutV xs none (some i) ++ cutV xs (some (i + 1)) (some (i + 2))) ++ [v])))
      refine ⟨st, xs, rfl, sq_l (k8 _ _ not0 hst3), fun b nb => ?_⟩
      have k9 := k8.trans (Kp.new nb (S := []) (o := .lst (cutV xs (some (i + 2)) none)))
      refine ⟨b, rfl, _, (Kp.new nb (S := [])) _ _ not0 upd_same, _, upd_same, sm (by simp only [List.length_append, List.length_singleton]; omega), fun p np => ?_⟩
      have z := chg_end R3 k13 k9 np (lks := lks) (ys := cutV xs none (some i) ++ cutV xs (some (i + 1)) (some (i + 2)) ++ [v] ++ cutV xs (some (i + 2)) none) ((((hxc _ _).app (hxc _ _)).app (hx3.sub fun y hyy => by rw [List.mem_singleton.mp hyy]; exact hv)).app (hxc _ _) |>.kp0 k9)
      exact q p _ _ z.1 upd_same z.2.1 (by simp only [List.length_append, List.length_singleton]; omega) (by simp only [List.length_append, List.length_singleton]; omega) z.2.2.1 z.2.2.2
end
end My

set_option Elab.async false
set_option linter.all false
set_option maxRecDepth 100000
set_option maxHeartbeats 4000000
namespace My
open PySem L2 NdefX
theorem StepV.eqd {K : PySem.W.Frag} {H : Hp} {v : V} {l : Lk} (h : StepV H v l) : ∃ d, Dp K H v d ∧ SeqAt.shaped d = true ∧ (∀ n, PyData.eqv d (.tuple [.str "lock", .str n]) = decide (l = some (true, n))) ∧ ∀ n, PyData.eqv d (.tuple [.str "free", .str n]) = decide (l = some (false, n)) := by
  obtain ⟨a, x, ps, ds, rs, rfl, e, hd, ⟨_, _, sh⟩, _, _, _, _, h4⟩ := h.ex
  refine ⟨_, (Dq.tup e (.cons (.str x) hd)).dp, sh, fun n => ?_, fun n => ?_⟩
  · show (x == (Str.ofString "lock") && PyData.eqvAll ds [.str n]) = _
    rcases h4 with ⟨rfl, h1, _⟩ | ⟨b, m, rfl, rfl, _, rfl⟩
    · rw [beq_eq_false_iff_ne.mpr h1]; rfl
    · cases b with
      | true =>
        show (((Str.ofString "lock") == (Str.ofString "lock")) && ((m == n) && true)) = _
        rw [beq_self_eq_true, Bool.true_and, Bool.and_true, Bool.eq_iff_iff, beq_iff_eq, decide_eq_true_eq]
        simp
      | false =>
        show (((Str.ofString "free") == (Str.ofString "lock")) && _) = _
        rw [beq_eq_false_iff_ne.mpr free_lock]
        simp
  · show (x == (Str.ofString "free") && PyData.eqvAll ds [.str n]) = _
    rcases h4 with ⟨rfl, _, h1⟩ | ⟨b, m, rfl, rfl, _, rfl⟩
    · rw [beq_eq_false_iff_ne.mpr h1]; rfl
    · cases b with
      | false =>
        show (((Str.ofString "free") == (Str.ofString "free")) && ((m == n) && true)) = _
        rw [beq_self_eq_true, Bool.true_and, Bool.and_true, Bool.eq_iff_iff, beq_iff_eq, decide_eq_true_eq]
        simp
      | true =>
        show (((Str.ofString "lock") == (Str.ofString "free")) && _) = _
        rw [beq_eq_false_iff_ne.mpr (Ne.symm free_lock)]
        simp
def spMany (K : PySem.W.Frag) : Sp := fun vs H Q _ => ∃ (a : Addr) (n : Str) (xs : List V) (ls : List Lk), vs = [.ref a, .str n] ∧ SqL K H a xs ∧ Steps H xs ls ∧ Nm n ∧ ∀ H', Kp [] H H' → Q (.int (cnt n ls)) H'
def ManyInv (a : Addr) (n : Str) (ls : List Lk) (H : Hp) (i : Nat) (σ : L2.St) (H' : Hp) : Prop := ∃ c, σ = [some (.ref a), some (.str n), some (.int (cn n ls i)), c] ∧ Kp [] H H'
section
variable {P : Program} {w : World} {K : PySem.W.Frag} {mg : Str → Option Value} {base : Heap}
theorem sh2 {x n : Str} (hx : PyData.strOk x = true) (h : Nm n) : SeqAt.shaped (.tuple [.str x, .str n]) = true := by
  simp [SeqAt.shaped, PyData.canLay0, PyData.canLayAll0, PyData.depth, PyData.depthAll, hx, nm_ok h]
theorem ok_law_many {f : Addr} {fd : FuncData} (D : Df K mg "_law_many" s_law_many ["_law_steps", "_law_lock"] f fd) : FnOk P w K mg base CX0 1 f fd ["_law_steps", "_law_lock"] (spMany K) := by
  refine D.F.ok sc_law_many (fun vs H Q E h => ?_) (fun cdv A outer s H vs Q E hr h => ?_)
  · obtain ⟨a, n, xs, ls, rfl, _⟩ := h
    rfl
  · obtain ⟨a, n, xs, ls, rfl, hS, hst, hn, q⟩ := h
    refine ⟨_, (pss_cons (ps_set (i := 2) sc_law_many.nd rfl (Or.inl rfl) pe_int)
      (pss_cons (ps_for PassesOwn.never rfl (pi_list (pv 0)) (pg_name (i := 3) sc_law_many.nd rfl (Or.inl rfl)) (pss_cons (ps_if (pt_cmpR (op_eqD hr.units) (pv 3) (pe_tup (pa_cons pe_str (pa_cons (pv 1) pa_nil))) (nomark _)) (pss_one (ps_set (i := 2) sc_law_many.nd rfl (Or.inl rfl) (pe_op op_add (pv 2) pe_int))) pss_nil)
      (pss_one (ps_if (pt_cmpR (op_eqD hr.units) (pv 3) (pe_tup (pa_cons pe_str (pa_cons (pv 1) pa_nil))) (nomark _)) (pss_one (ps_set (i := 2) sc_law_many.nd rfl (Or.inl rfl) (pe_op op_sub (pv 2) pe_int))) pss_nil))))
      (pss_one (ps_ret (pv 2))))), ?_⟩
    simp only [tSeq, tIfS, tTest, tOp, tUn, tCB, tCons, tNil, tVar, tC, rI0, rI, rU, rEq, rNe, tRet, tRetN, tAsg, gName, gSub, tBM, tBM0, tNext, tB, tNot, tAnd, tOr, tIf, tCall, tDrop, tBreak, tCont, L2.start, tDGet, sDPut, tTup, tLst, tDNewK, tRevL, rCat, rAppend, rPop, rSetL, tAndV, tOrV, tNotV, tSl, tPart, tNoPart, tM1, gTup, gCons, gNil, cxK, cxnK, List.map_cons, List.map_nil, List.length_cons, List.length_nil, List.replicate, List.cons_append, List.nil_append, List.append_nil, List.set_cons_zero, List.set_cons_succ, List.getElem?_cons_zero, List.getElem?_cons_succ, Option.some.injEq, V.ref.injEq, V.int.injEq, V.str.injEq, V.bl.injEq, V.ty.injEq, exists_eq_left', exists_eq_left, exists_and_left, List.cons.injEq, and_true, true_and, sc_ii, sc_ss, sc_bb, sc_ni, sc_in, sc_is, sc_si, sc_nn, decide_true, decide_false, reduceCtorEq, Bool.false_eq_true, if_true, if_false, ite_true, ite_false, exists_const, eq_self, false_and, and_false, or_false, false_or, exists_false, Evl.rLenS, rSum, wipe, tYes, exists_eq, exists_eq', rIxL, rIxT, rIxS, exists_and_right, gt_iff_lt, not_true_eq_false, not_false_eq_true, Bool.not_true, Bool.not_false, decide_eq_true_eq, Nat.reduceSub, Nat.reduceAdd, List.append_assoc, tChain, tDIn, tDNotIn, sDDel, tAug, ipI]
    refine forL (K := K) (a := a) (xs := xs) (ManyInv a n ls H) rfl hS ⟨_, rfl, Kp.refl _ _⟩ ?_ ?_ ?_
    · rintro i σ H1 _ ⟨c, rfl, k⟩
      exact k.ls not0 hS
    · rintro i x σ H1 hx ⟨c, rfl, k⟩
      obtain ⟨l, el, sv⟩ := hst.2 i x hx
      simp only [tSeq, tIfS, tTest, tOp, tUn, tCB, tCons, tNil, tVar, tC, rI0, rI, rU, rEq, rNe, tRet, tRetN, tAsg, gName, gSub, tBM, tBM0, tNext, tB, tNot, tAnd, tOr, tIf, tCall, tDrop, tBreak, tCont, L2.start, tDGet, sDPut, tTup, tLst, tDNewK, tRevL, rCat, rAppend, rPop, rSetL, tAndV, tOrV, tNotV, tSl, tPart, tNoPart, tM1, gTup, gCons, gNil, cxK, cxnK, List.map_cons, List.map_nil, List.length_cons, List.length_nil, List.replicate, List.cons_append, List.nil_append, List.append_nil, List.set_cons_zero, List.set_cons_succ, List.getElem?_cons_zero, List.getElem?_cons_succ, Option.some.injEq, V.ref.injEq, V.int.injEq, V.str.injEq, V.bl.injEq, V.ty.injEq, exists_eq_left', exists_eq_left, exists_and_left, List.cons.injEq, and_true, true_and, sc_ii, sc_ss, sc_bb, sc_ni, sc_in, sc_is, sc_si, sc_nn, decide_true, decide_false, reduceCtorEq, Bool.false_eq_true, if_true, if_false, ite_true, ite_false, exists_const, eq_self, false_and, and_false, or_false, false_or, exists_false, Evl.rLenS, rSum, wipe, tYes, exists_eq, exists_eq', rIxL, rIxT, rIxS, exists_and_right, gt_iff_lt, not_true_eq_false, not_false_eq_true, Bool.not_true, Bool.not_false, decide_eq_true_eq, Nat.reduceSub, Nat.reduceAdd, List.append_assoc, tChain, tDIn, tDNotIn, sDDel, tAug, ipI]
      refine ⟨small (by decide), fun p np => ?_⟩
      have k1 := k.trans (Kp.new np (S := []) (o := .tup [.str "lock", .str n]))
      obtain ⟨d, hd, sd, e1, e2⟩ := (sv.kp k1).eqd (K := K)
      refine ⟨d, _, hd, .tup (sq_t upd_same) (.cons (.str _) (.cons (.str _) .nil)), sd, sh2 so_lock hn, ?_⟩
      rw [e1]
      refine ⟨_, rfl, ?_⟩
      by_cases c1 : l = some (true, n)
      · rw [decide_eq_true c1, if_pos rfl]
        refine ⟨small (by decide), fun p2 np2 => ?_⟩
        have k2 := k1.trans (Kp.new np2 (S := []) (o := .tup [.str "free", .str n]))
        obtain ⟨d2, hd2, sd2, e3, e4⟩ := (sv.kp k2).eqd (K := K)
        refine ⟨d2, _, hd2, .tup (sq_t upd_same) (.cons (.str _) (.cons (.str _) .nil)), sd2, sh2 so_free hn, ?_⟩
        rw [e4]
        refine ⟨_, rfl, ?_⟩
        have c2 : ¬ l = some (false, n) := by rw [c1]; simp
        rw [decide_eq_false c2, if_neg Bool.false_ne_true]
        exact ⟨_, by rw [cn_next el, if_pos c1], k2⟩
      · rw [decide_eq_false c1, if_neg Bool.false_ne_true]
        refine ⟨small (by decide), fun p2 np2 => ?_⟩
        have k2 := k1.trans (Kp.new np2 (S := []) (o := .tup [.str "free", .str n]))
        obtain ⟨d2, hd2, sd2, e3, e4⟩ := (sv.kp k2).eqd (K := K)
        refine ⟨d2, _, hd2, .tup (sq_t upd_same) (.cons (.str _) (.cons (.str _) .nil)), sd2, sh2 so_free hn, ?_⟩
        rw [e4]
        refine ⟨_, rfl, ?_⟩
        by_cases c2 : l = some (false, n)
        · rw [decide_eq_true c2, if_pos rfl]
          exact ⟨_, by rw [cn_next el, if_neg c1, if_pos c2]; rfl, k2⟩
        · rw [decide_eq_false c2, if_neg Bool.false_ne_true]
          exact ⟨_, by rw [cn_next el, if_neg c1, if_neg c2, Int.add_zero], k2⟩
    · rintro σ H1 ⟨c, rfl, k⟩
      simp only [tSeq, tIfS, tTest, tOp, tUn, tCB, tCons, tNil, tVar, tC, rI0, rI, rU, rEq, rNe, tRet, tRetN, tAsg, gName, gSub, tBM, tBM0, tNext, tB, tNot, tAnd, tOr, tIf, tCall, tDrop, tBreak, tCont, L2.start, tDGet, sDPut, tTup, tLst, tDNewK, tRevL, rCat, rAppend, rPop, rSetL, tAndV, tOrV, tNotV, tSl, tPart, tNoPart, tM1, gTup, gCons, gNil, cxK, cxnK, List.map_cons, List.map_nil, List.length_cons, List.length_nil, List.replicate, List.cons_append, List.nil_append, List.append_nil, List.set_cons_zero, List.set_cons_succ, List.getElem?_cons_zero, List.getElem?_cons_succ, Option.some.injEq, V.ref.injEq, V.int.injEq, V.str.injEq, V.bl.injEq, V.ty.injEq, exists_eq_left', exists_eq_left, exists_and_left, List.cons.injEq, and_true, true_and, sc_ii, sc_ss, sc_bb, sc_ni, sc_in, sc_is, sc_si, sc_nn, decide_true, decide_false, reduceCtorEq, Bool.false_eq_true, if_true, if_false, ite_true, ite_false, exists_const, eq_self, false_and, and_false, or_false, false_or, exists_false, Evl.rLenS, rSum, wipe, tYes, exists_eq, exists_eq', rIxL, rIxT, rIxS, exists_and_right, gt_iff_lt, not_true_eq_false, not_false_eq_true, Bool.not_true, Bool.not_false, decide_eq_true_eq, Nat.reduceSub, Nat.reduceAdd, List.append_assoc, tChain, tDIn, tDNotIn, sDDel, tAug, ipI]
      have e : cn n ls xs.length = cnt n ls := by
        unfold cn
        rw [hst.1, List.take_length]
      rw [e]
      exact q _ k
theorem Steps.take {H : Hp} {xs : List V} {ls : List Lk} (h : Steps H xs ls) (i : Nat) : Steps H (xs.take i) (ls.take i) := ⟨by rw [List.length_take, List.length_take, h.1], fun j x e => by
  by_cases z : j < i
  · rw [List.getElem?_take_of_lt z] at e
    obtain ⟨l, e1, sv⟩ := h.2 j x e
    exact ⟨l, by rw [List.getElem?_take_of_lt z]; exact e1, sv⟩
  · rw [List.getElem?_take_eq_none (by omega)] at e; cases e⟩
theorem cnt_out {n : Str} : ∀ {ls : List Lk}, (∀ l ∈ ls, ∀ b, l ≠ some (b, n)) → cnt n ls = 0
  | [], _ => rfl
  | l :: r, h => by
    have ih := cnt_out (ls := r) fun l hl => h l (List.mem_cons_of_mem _ hl)
    show (if l = some (true, n) then (1 : Int) else if l = some (false, n) then -1 else 0) + cnt n r = 0
    rw [ih, if_neg (h l List.mem_cons_self true), if_neg (h l List.mem_cons_self false)]; rfl
def wrV : Option Nat → V
  | none => .int (-1)
  | some k => .int (k : Nat)
def NamesIn (ls : List Lk) (lks : List Str) : Prop := ∀ (i : Nat) b n, ls[i]? = some (some (b, n)) → n ∈ lks
def spWrong : Sp := fun vs H Q _ => ∃ (a lk : Addr) (xs : List V) (ls : List Lk) (lks : List Str), vs = [.ref a, .ref lk] ∧ H a = some (.lst xs) ∧ H lk = some (.lst (lks.map V.str)) ∧ Steps H xs ls ∧ NamesIn ls lks ∧ (∀ y ∈ lks, Nm y) ∧ xs.length ≤ 1000 ∧ ∀ r H', IsF ls r → Kp [] H H' → Q (wrV r) H'
def WrInv (a lk : Addr) (ls : List Lk) (H : Hp) (i : Nat) (σ : L2.St) (H' : Hp) : Prop := ∃ c, σ = [some (.ref a), some (.ref lk), c, none] ∧ (∀ j, j < i → fine ls j) ∧ Kp [] H H'
def WrInv2 (a lk : Addr) (ls : List Lk) (lks : List Str) (H : Hp) (i : Nat) (σ : L2.St) (H' : Hp) : Prop := ∃ c d, σ = [some (.ref a), some (.ref lk), c, d] ∧ (∀ j y, j < i → lks[j]? = some y → cn y ls ls.length = 0) ∧ Kp [] H H'
theorem ok_law_wrong {f : Addr} {fd : FuncData} (D : Df K mg "_law_wrong" s_law_wrong ["_law_steps", "_law_locks"] f fd) (T : Bt0 mg) {fm : Addr} {fdm : FuncData} (D_law_many : Df K mg "_law_many" s_law_many ["_law_steps", "_law_lock"] fm fdm) (G_law_many : FnOk P w K mg base CX0 1 fm fdm ["_law_steps", "_law_lock"] (spMany K)) : FnOk P w K mg base CX0 2 f fd ["_law_steps", "_law_locks"] spWrong := by
  refine D.F.ok sc_law_wrong (fun vs H Q E h => ?_) (fun cdv A outer s H vs Q E hr h => ?_)
  · obtain ⟨a, lk, xs, ls, lks, rfl, _⟩ := h
    rfl
  · obtain ⟨a, lk, xs, ls, lks, rfl, ha, hlk, hst, hnm, hy, hl, q⟩ := h
    refine ⟨_, (pss_cons (ps_for PassesOwn.never rfl (pi_range1 rfl T.b_range (pa_cons (pe_callB (id := "len") (r := Evl.rLenS K) call_len_seq (by rfl) T.b_len PySem.boot_len (pa_cons (pv 0) pa_nil)) pa_nil)) (pg_name (i := 2) sc_law_wrong.nd rfl (Or.inl rfl)) (pss_cons (ps_if (PW.pt (pw_and (pt_cmpR op_eq (pe_ix (r := rIxT K) ix_tup (pe_ix (r := rIxL K) ix_list (pv 0) (pv 2) (fun _ _ => rfl)) pe_int (fun _ _ => rfl)) pe_str (nomark _)) (pw_and1 (pt_cmpR op_ne (pe_call G_law_many (hr.mono (by decide)) rfl D_law_many.g D_law_many.F.kp D_law_many.b .nil pass0 (pa_cons (pe_slice sl_list (pv 0) po_none (po_some (pv 2))) (pa_cons (pe_ix (r := rIxT K) ix_tup (pe_ix (r := rIxL K) ix_list (pv 0) (pv 2) (fun _ _ => rfl)) pe_int (fun _ _ => rfl)) pa_nil))) pe_int (nomark _))))) (pss_one (ps_ret (pv 2))) pss_nil)
      (pss_one (ps_if (PW.pt (pw_and (pt_cmpR op_eq (pe_ix (r := rIxT K) ix_tup (pe_ix (r := rIxL K) ix_list (pv 0) (pv 2) (fun _ _ => rfl)) pe_int (fun _ _ => rfl)) pe_str (nomark _)) (pw_and1 (pt_cmpR op_ne (pe_call G_law_many (hr.mono (by decide)) rfl D_law_many.g D_law_many.F.kp D_law_many.b .nil pass0 (pa_cons (pe_slice sl_list (pv 0) po_none (po_some (pv 2))) (pa_cons (pe_ix (r := rIxT K) ix_tup (pe_ix (r := rIxL K) ix_list (pv 0) (pv 2) (fun _ _ => rfl)) pe_int (fun _ _ => rfl)) pa_nil))) pe_int (nomark _))))) (pss_one (ps_ret (pv 2))) pss_nil))))
      (pss_cons (ps_for PassesOwn.never rfl (pi_list (pv 1)) (pg_name (i := 3) sc_law_wrong.nd rfl (Or.inl rfl)) (pss_one (ps_if (pt_cmpR op_ne (pe_call G_law_many (hr.mono (by decide)) rfl D_law_many.g D_law_many.F.kp D_law_many.b .nil pass0 (pa_cons (pv 0) (pa_cons (pv 3) pa_nil))) pe_int (nomark _)) (pss_one (ps_ret (pe_callB (id := "len") (r := Evl.rLenS K) call_len_seq (by rfl) T.b_len PySem.boot_len (pa_cons (pv 0) pa_nil)))) pss_nil)))
      (pss_one (ps_ret (pe_un un_neg pe_int))))), ?_⟩
    simp only [tSeq, tIfS, tTest, tOp, tUn, tCB, tCons, tNil, tVar, tC, rI0, rI, rU, rEq, rNe, tRet, tRetN, tAsg, gName, gSub, tBM, tBM0, tNext, tB, tNot, tAnd, tOr, tIf, tCall, tDrop, tBreak, tCont, L2.start, tDGet, sDPut, tTup, tLst, tDNewK, tRevL, rCat, rAppend, rPop, rSetL, tAndV, tOrV, tNotV, tSl, tPart, tNoPart, tM1, gTup, gCons, gNil, cxK, cxnK, List.map_cons, List.map_nil, List.length_cons, List.length_nil, List.replicate, List.cons_append, List.nil_append, List.append_nil, List.set_cons_zero, List.set_cons_succ, List.getElem?_cons_zero, List.getElem?_cons_succ, Option.some.injEq, V.ref.injEq, V.int.injEq, V.str.injEq, V.bl.injEq, V.ty.injEq, exists_eq_left', exists_eq_left, exists_and_left, List.cons.injEq, and_true, true_and, sc_ii, sc_ss, sc_bb, sc_ni, sc_in, sc_is, sc_si, sc_nn, decide_true, decide_false, reduceCtorEq, Bool.false_eq_true, if_true, if_false, ite_true, ite_false, exists_const, eq_self, false_and, and_false, or_false, false_or, exists_false, Evl.rLenS, rSum, wipe, tYes, exists_eq, exists_eq', rIxL, rIxT, rIxS, exists_and_right, gt_iff_lt, not_true_eq_false, not_false_eq_true, Bool.not_true, Bool.not_false, decide_eq_true_eq, Nat.reduceSub, Nat.reduceAdd, List.append_assoc, tChain, tDIn, tDNotIn, sDDel, tAug, ipI]
    refine ⟨.ref a, rfl, a, xs, rfl, .inl (sq_l ha), _, rfl, by omega, by omega, for_range (lo := 0) (n := ((xs.length : Nat) : Int).toNat) (WrInv a lk ls H) ⟨_, rfl, (fun j hj => absurd hj (by omega)), Kp.refl _ _⟩ ?_ ?_⟩
    · rintro i σ H1 hi ⟨c, rfl, hf, k⟩
      have hi' : i < xs.length := by omega
      have ex : xs[i]? = some xs[i] := List.getElem?_eq_getElem hi'
      obtain ⟨l, el, sv⟩ := hst.2 i _ ex
      have ha1 := k _ _ not0 ha
      obtain ⟨b, x, qs, eb, hb, cs⟩ := (sv.kp k).at0 (K := K)
      have ev : atI xs (0 + (i : Int)) = some (.ref b) := by
        rw [Int.zero_add]
        exact atI_of (by omega) (by rw [Int.toNat_natCast, ex, eb])
      have ect : cutV xs none (some (0 + (i : Int))) = xs.take i := by
        rw [cut_to (by omega)]
        congr 1
        omega
      have ei : (0 : Int) + (i : Int) = ((i : Nat) : Int) := by omega
      simp only [tSeq, tIfS, tTest, tOp, tUn, tCB, tCons, tNil, tVar, tC, rI0, rI, rU, rEq, rNe, tRet, tRetN, tAsg, gName, gSub, tBM, tBM0, tNext, tB, tNot, tAnd, tOr, tIf, tCall, tDrop, tBreak, tCont, L2.start, tDGet, sDPut, tTup, tLst, tDNewK, tRevL, rCat, rAppend, rPop, rSetL, tAndV, tOrV, tNotV, tSl, tPart, tNoPart, tM1, gTup, gCons, gNil, cxK, cxnK, List.map_cons, List.map_nil, List.length_cons, List.length_nil, List.replicate, List.cons_append, List.nil_append, List.append_nil, List.set_cons_zero, List.set_cons_succ, List.getElem?_cons_zero, List.getElem?_cons_succ, Option.some.injEq, V.ref.injEq, V.int.injEq, V.str.injEq, V.bl.injEq, V.ty.injEq, exists_eq_left', exists_eq_left, exists_and_left, List.cons.injEq, and_true, true_and, sc_ii, sc_ss, sc_bb, sc_ni, sc_in, sc_is, sc_si, sc_nn, decide_true, decide_false, reduceCtorEq, Bool.false_eq_true, if_true, if_false, ite_true, ite_false, exists_const, eq_self, false_and, and_false, or_false, false_or, exists_false, Evl.rLenS, rSum, wipe, tYes, exists_eq, exists_eq', rIxL, rIxT, rIxS, exists_and_right, gt_iff_lt, not_true_eq_false, not_false_eq_true, Bool.not_true, Bool.not_false, decide_eq_true_eq, Nat.reduceSub, Nat.reduceAdd, List.append_assoc, tChain, tDIn, tDNotIn, sDDel, tAug, ipI]
      refine ⟨xs, sq_l ha1, _, ev, b, rfl, _, sq_t hb, _, atI_of (by decide) rfl, ?_⟩
      rcases cs with ⟨rfl, x1, x2⟩ | ⟨n, rfl, rfl, rfl⟩ | ⟨n, rfl, rfl, rfl⟩
      · simp only [tSeq, tIfS, tTest, tOp, tUn, tCB, tCons, tNil, tVar, tC, rI0, rI, rU, rEq, rNe, tRet, tRetN, tAsg, gName, gSub, tBM, tBM0, tNext, tB, tNot, tAnd, tOr, tIf, tCall, tDrop, tBreak, tCont, L2.start, tDGet, sDPut, tTup, tLst, tDNewK, tRevL, rCat, rAppend, rPop, rSetL, tAndV, tOrV, tNotV, tSl, tPart, tNoPart, tM1, gTup, gCons, gNil, cxK, cxnK, List.map_cons, List.map_nil, List.length_cons, List.length_nil, List.replicate, List.cons_append, List.nil_append, List.append_nil, List.set_cons_zero, List.set_cons_succ, List.getElem?_cons_zero, List.getElem?_cons_succ, Option.some.injEq, V.ref.injEq, V.int.injEq, V.str.injEq, V.bl.injEq, V.ty.injEq, exists_eq_left', exists_eq_left, exists_and_left, List.cons.injEq, and_true, true_and, sc_ii, sc_ss, sc_bb, sc_ni, sc_in, sc_is, sc_si, sc_nn, decide_true, decide_false, reduceCtorEq, Bool.false_eq_true, if_true, if_false, ite_true, ite_false, exists_const, eq_self, false_and, and_false, or_false, false_or, exists_false, Evl.rLenS, rSum, wipe, tYes, exists_eq, exists_eq', rIxL, rIxT, rIxS, exists_and_right, gt_iff_lt, not_true_eq_false, not_false_eq_true, Bool.not_true, Bool.not_false, decide_eq_true_eq, Nat.reduceSub, Nat.reduceAdd, List.append_assoc, tChain, tDIn, tDNotIn, sDDel, tAug, ipI, x1]
        refine ⟨xs, sq_l ha1, _, ev, b, rfl, _, sq_t hb, _, atI_of (by decide) rfl, ?_⟩
        simp only [tSeq, tIfS, tTest, tOp, tUn, tCB, tCons, tNil, tVar, tC, rI0, rI, rU, rEq, rNe, tRet, tRetN, tAsg, gName, gSub, tBM, tBM0, tNext, tB, tNot, tAnd, tOr, tIf, tCall, tDrop, tBreak, tCont, L2.start, tDGet, sDPut, tTup, tLst, tDNewK, tRevL, rCat, rAppend, rPop, rSetL, tAndV, tOrV, tNotV, tSl, tPart, tNoPart, tM1, gTup, gCons, gNil, cxK, cxnK, List.map_cons, List.map_nil, List.length_cons, List.length_nil, List.replicate, List.cons_append, List.nil_append, List.append_nil, List.set_cons_zero, List.set_cons_succ, List.getElem?_cons_zero, List.getElem?_cons_succ, Option.some.injEq, V.ref.injEq, V.int.injEq, V.str.injEq, V.bl.injEq, V.ty.injEq, exists_eq_left', exists_eq_left, exists_and_left, List.cons.injEq, and_true, true_and, sc_ii, sc_ss, sc_bb, sc_ni, sc_in, sc_is, sc_si, sc_nn, decide_true, decide_false, reduceCtorEq, Bool.false_eq_true, if_true, if_false, ite_true, ite_false, exists_const, eq_self, false_and, and_false, or_false, false_or, exists_false, Evl.rLenS, rSum, wipe, tYes, exists_eq, exists_eq', rIxL, rIxT, rIxS, exists_and_right, gt_iff_lt, not_true_eq_false, not_false_eq_true, Bool.not_true, Bool.not_false, decide_eq_true_eq, Nat.reduceSub, Nat.reduceAdd, List.append_assoc, tChain, tDIn, tDNotIn, sDDel, tAug, ipI, x2]
        exact ⟨_, rfl, fine_next hf (fun b n z => by rw [el] at z; cases z), k⟩
      · have hn := hy n (hnm i true n el)
        have fl : (Str.ofString "lock" = Str.ofString "free") = False := eq_false (Ne.symm free_lock)
        simp only [tSeq, tIfS, tTest, tOp, tUn, tCB, tCons, tNil, tVar, tC, rI0, rI, rU, rEq, rNe, tRet, tRetN, tAsg, gName, gSub, tBM, tBM0, tNext, tB, tNot, tAnd, tOr, tIf, tCall, tDrop, tBreak, tCont, L2.start, tDGet, sDPut, tTup, tLst, tDNewK, tRevL, rCat, rAppend, rPop, rSetL, tAndV, tOrV, tNotV, tSl, tPart, tNoPart, tM1, gTup, gCons, gNil, cxK, cxnK, List.map_cons, List.map_nil, List.length_cons, List.length_nil, List.replicate, List.cons_append, List.nil_append, List.append_nil, List.set_cons_zero, List.set_cons_succ, List.getElem?_cons_zero, List.getElem?_cons_succ, Option.some.injEq, V.ref.injEq, V.int.injEq, V.str.injEq, V.bl.injEq, V.ty.injEq, exists_eq_left', exists_eq_left, exists_and_left, List.cons.injEq, and_true, true_and, sc_ii, sc_ss, sc_bb, sc_ni, sc_in, sc_is, sc_si, sc_nn, decide_true, decide_false, reduceCtorEq, Bool.false_eq_true, if_true, if_false, ite_true, ite_false, exists_const, eq_self, false_and, and_false, or_false, false_or, exists_false, Evl.rLenS, rSum, wipe, tYes, exists_eq, exists_eq', rIxL, rIxT, rIxS, exists_and_right, gt_iff_lt, not_true_eq_false, not_false_eq_true, Bool.not_true, Bool.not_false, decide_eq_true_eq, Nat.reduceSub, Nat.reduceAdd, List.append_assoc, tChain, tDIn, tDNotIn, sDDel, tAug, ipI]
        refine ⟨a, xs, rfl, sq_l ha1, fun p np => ?_⟩
        rw [ect]
        have kp1 := k.trans (Kp.new np (S := []) (o := .lst (xs.take i)))
        refine ⟨xs, sq_l (kp1 _ _ not0 ha), _, ev, b, rfl, _, sq_t ((Kp.new np (S := [])) _ _ not0 hb), _, atI_of (by decide) rfl, ?_⟩
        refine ⟨p, n, xs.take i, ls.take i, rfl, sq_l upd_same, (hst.kp kp1).take i, hn, fun H2 k2 => ?_⟩
        simp only [tSeq, tIfS, tTest, tOp, tUn, tCB, tCons, tNil, tVar, tC, rI0, rI, rU, rEq, rNe, tRet, tRetN, tAsg, gName, gSub, tBM, tBM0, tNext, tB, tNot, tAnd, tOr, tIf, tCall, tDrop, tBreak, tCont, L2.start, tDGet, sDPut, tTup, tLst, tDNewK, tRevL, rCat, rAppend, rPop, rSetL, tAndV, tOrV, tNotV, tSl, tPart, tNoPart, tM1, gTup, gCons, gNil, cxK, cxnK, List.map_cons, List.map_nil, List.length_cons, List.length_nil, List.replicate, List.cons_append, List.nil_append, List.append_nil, List.set_cons_zero, List.set_cons_succ, List.getElem?_cons_zero, List.getElem?_cons_succ, Option.some.injEq, V.ref.injEq, V.int.injEq, V.str.injEq, V.bl.injEq, V.ty.injEq, exists_eq_left', exists_eq_left, exists_and_left, List.cons.injEq, and_true, true_and, sc_ii, sc_ss, sc_bb, sc_ni, sc_in, sc_is, sc_si, sc_nn, decide_true, decide_false, reduceCtorEq, Bool.false_eq_true, if_true, if_false, ite_true, ite_false, exists_const, eq_self, false_and, and_false, or_false, false_or, exists_false, Evl.rLenS, rSum, wipe, tYes, exists_eq, exists_eq', rIxL, rIxT, rIxS, exists_and_right, gt_iff_lt, not_true_eq_false, not_false_eq_true, Bool.not_true, Bool.not_false, decide_eq_true_eq, Nat.reduceSub, Nat.reduceAdd, List.append_assoc, tChain, tDIn, tDNotIn, sDDel, tAug, ipI]
        rw [show cnt n (ls.take i) = cn n ls i from rfl]
        have kp2 := kp1.trans k2
        by_cases hc : cn n ls i = 0
        · simp only [tSeq, tIfS, tTest, tOp, tUn, tCB, tCons, tNil, tVar, tC, rI0, rI, rU, rEq, rNe, tRet, tRetN, tAsg, gName, gSub, tBM, tBM0, tNext, tB, tNot, tAnd, tOr, tIf, tCall, tDrop, tBreak, tCont, L2.start, tDGet, sDPut, tTup, tLst, tDNewK, tRevL, rCat, rAppend, rPop, rSetL, tAndV, tOrV, tNotV, tSl, tPart, tNoPart, tM1, gTup, gCons, gNil, cxK, cxnK, List.map_cons, List.map_nil, List.length_cons, List.length_nil, List.replicate, List.cons_append, List.nil_append, List.append_nil, List.set_cons_zero, List.set_cons_succ, List.getElem?_cons_zero, List.getElem?_cons_succ, Option.some.injEq, V.ref.injEq, V.int.injEq, V.str.injEq, V.bl.injEq, V.ty.injEq, exists_eq_left', exists_eq_left, exists_and_left, List.cons.injEq, and_true, true_and, sc_ii, sc_ss, sc_bb, sc_ni, sc_in, sc_is, sc_si, sc_nn, decide_true, decide_false, reduceCtorEq, Bool.false_eq_true, if_true, if_false, ite_true, ite_false, exists_const, eq_self, false_and, and_false, or_false, false_or, exists_false, Evl.rLenS, rSum, wipe, tYes, exists_eq, exists_eq', rIxL, rIxT, rIxS, exists_and_right, gt_iff_lt, not_true_eq_false, not_false_eq_true, Bool.not_true, Bool.not_false, decide_eq_true_eq, Nat.reduceSub, Nat.reduceAdd, List.append_assoc, tChain, tDIn, tDNotIn, sDDel, tAug, ipI, hc]
          refine ⟨xs, sq_l (kp2 _ _ not0 ha), _, ev, b, rfl, _, sq_t (k2 _ _ not0 ((Kp.new np (S := [])) _ _ not0 hb)), _, atI_of (by decide) rfl, ?_⟩
          simp only [tSeq, tIfS, tTest, tOp, tUn, tCB, tCons, tNil, tVar, tC, rI0, rI, rU, rEq, rNe, tRet, tRetN, tAsg, gName, gSub, tBM, tBM0, tNext, tB, tNot, tAnd, tOr, tIf, tCall, tDrop, tBreak, tCont, L2.start, tDGet, sDPut, tTup, tLst, tDNewK, tRevL, rCat, rAppend, rPop, rSetL, tAndV, tOrV, tNotV, tSl, tPart, tNoPart, tM1, gTup, gCons, gNil, cxK, cxnK, List.map_cons, List.map_nil, List.length_cons, List.length_nil, List.replicate, List.cons_append, List.nil_append, List.append_nil, List.set_cons_zero, List.set_cons_succ, List.getElem?_cons_zero, List.getElem?_cons_succ, Option.some.injEq, V.ref.injEq, V.int.injEq, V.str.injEq, V.bl.injEq, V.ty.injEq, exists_eq_left', exists_eq_left, exists_and_left, List.cons.injEq, and_true, true_and, sc_ii, sc_ss, sc_bb, sc_ni, sc_in, sc_is, sc_si, sc_nn, decide_true, decide_false, reduceCtorEq, Bool.false_eq_true, if_true, if_false, ite_true, ite_false, exists_const, eq_self, false_and, and_false, or_false, false_or, exists_false, Evl.rLenS, rSum, wipe, tYes, exists_eq, exists_eq', rIxL, rIxT, rIxS, exists_and_right, gt_iff_lt, not_true_eq_false, not_false_eq_true, Bool.not_true, Bool.not_false, decide_eq_true_eq, Nat.reduceSub, Nat.reduceAdd, List.append_assoc, tChain, tDIn, tDNotIn, sDDel, tAug, ipI, fl]
          refine ⟨_, rfl, fine_next hf (fun b' n' z => ?_), kp2⟩
          rw [el] at z; cases z
          exact hc
        · simp only [tSeq, tIfS, tTest, tOp, tUn, tCB, tCons, tNil, tVar, tC, rI0, rI, rU, rEq, rNe, tRet, tRetN, tAsg, gName, gSub, tBM, tBM0, tNext, tB, tNot, tAnd, tOr, tIf, tCall, tDrop, tBreak, tCont, L2.start, tDGet, sDPut, tTup, tLst, tDNewK, tRevL, rCat, rAppend, rPop, rSetL, tAndV, tOrV, tNotV, tSl, tPart, tNoPart, tM1, gTup, gCons, gNil, cxK, cxnK, List.map_cons, List.map_nil, List.length_cons, List.length_nil, List.replicate, List.cons_append, List.nil_append, List.append_nil, List.set_cons_zero, List.set_cons_succ, List.getElem?_cons_zero, List.getElem?_cons_succ, Option.some.injEq, V.ref.injEq, V.int.injEq, V.str.injEq, V.bl.injEq, V.ty.injEq, exists_eq_left', exists_eq_left, exists_and_left, List.cons.injEq, and_true, true_and, sc_ii, sc_ss, sc_bb, sc_ni, sc_in, sc_is, sc_si, sc_nn, decide_true, decide_false, reduceCtorEq, Bool.false_eq_true, if_true, if_false, ite_true, ite_false, exists_const, eq_self, false_and, and_false, or_false, false_or, exists_false, Evl.rLenS, rSum, wipe, tYes, exists_eq, exists_eq', rIxL, rIxT, rIxS, exists_and_right, gt_iff_lt, not_true_eq_false, not_false_eq_true, Bool.not_true, Bool.not_false, decide_eq_true_eq, Nat.reduceSub, Nat.reduceAdd, List.append_assoc, tChain, tDIn, tDNotIn, sDDel, tAug, ipI, hc]
          rw [ei]
          refine q (some i) H2 (.bad i (by rw [← hst.1]; exact hi') hf fun g => ?_) kp2
          exact hc (g _ _ el)
      · have hn := hy n (hnm i false n el)
        have fl : (Str.ofString "free" = Str.ofString "lock") = False := eq_false free_lock
        simp only [tSeq, tIfS, tTest, tOp, tUn, tCB, tCons, tNil, tVar, tC, rI0, rI, rU, rEq, rNe, tRet, tRetN, tAsg, gName, gSub, tBM, tBM0, tNext, tB, tNot, tAnd, tOr, tIf, tCall, tDrop, tBreak, tCont, L2.start, tDGet, sDPut, tTup, tLst, tDNewK, tRevL, rCat, rAppend, rPop, rSetL, tAndV, tOrV, tNotV, tSl, tPart, tNoPart, tM1, gTup, gCons, gNil, cxK, cxnK, List.map_cons, List.map_nil, List.length_cons, List.length_nil, List.replicate, List.cons_append, List.nil_append, List.append_nil, List.set_cons_zero, List.set_cons_succ, List.getElem?_cons_zero, List.getElem?_cons_succ, Option.some.injEq, V.ref.injEq, V.int.injEq, V.str.injEq, V.bl.injEq, V.ty.injEq, exists_eq_left', exists_eq_left, exists_and_left, List.cons.injEq, and_true, true_and, sc_ii, sc_ss, sc_bb, sc_ni, sc_in, sc_is, sc_si, sc_nn, decide_true, decide_false, reduceCtorEq, Bool.false_eq_true, if_true, if_false, ite_true, ite_false, exists_const, eq_self, false_and, and_false, or_false, false_or, exists_false, Evl.rLenS, rSum, wipe, tYes, exists_eq, exists_eq', rIxL, rIxT, rIxS, exists_and_right, gt_iff_lt, not_true_eq_false, not_false_eq_true, Bool.not_true, Bool.not_false, decide_eq_true_eq, Nat.reduceSub, Nat.reduceAdd, List.append_assoc, tChain, tDIn, tDNotIn, sDDel, tAug, ipI, fl]
        refine ⟨xs, sq_l ha1, _, ev, b, rfl, _, sq_t hb, _, atI_of (by decide) rfl, ?_⟩
        simp only [tSeq, tIfS, tTest, tOp, tUn, tCB, tCons, tNil, tVar, tC, rI0, rI, rU, rEq, rNe, tRet, tRetN, tAsg, gName, gSub, tBM, tBM0, tNext, tB, tNot, tAnd, tOr, tIf, tCall, tDrop, tBreak, tCont, L2.start, tDGet, sDPut, tTup, tLst, tDNewK, tRevL, rCat, rAppend, rPop, rSetL, tAndV, tOrV, tNotV, tSl, tPart, tNoPart, tM1, gTup, gCons, gNil, cxK, cxnK, List.map_cons, List.map_nil, List.length_cons, List.length_nil, List.replicate, List.cons_append, List.nil_append, List.append_nil, List.set_cons_zero, List.set_cons_succ, List.getElem?_cons_zero, List.getElem?_cons_succ, Option.some.injEq, V.ref.injEq, V.int.injEq, V.str.injEq, V.bl.injEq, V.ty.injEq, exists_eq_left', exists_eq_left, exists_and_left, List.cons.injEq, and_true, true_and, sc_ii, sc_ss, sc_bb, sc_ni, sc_in, sc_is, sc_si, sc_nn, decide_true, decide_false, reduceCtorEq, Bool.false_eq_true, if_true, if_false, ite_true, ite_false, exists_const, eq_self, false_and, and_false, or_false, false_or, exists_false, Evl.rLenS, rSum, wipe, tYes, exists_eq, exists_eq', rIxL, rIxT, rIxS, exists_and_right, gt_iff_lt, not_true_eq_false, not_false_eq_true, Bool.not_true, Bool.not_false, decide_eq_true_eq, Nat.reduceSub, Nat.reduceAdd, List.append_assoc, tChain, tDIn, tDNotIn, sDDel, tAug, ipI]
        refine ⟨a, xs, rfl, sq_l ha1, fun p np => ?_⟩
        rw [ect]
        have kp1 := k.trans (Kp.new np (S := []) (o := .lst (xs.take i)))
        refine ⟨xs, sq_l (kp1 _ _ not0 ha), _, ev, b, rfl, _, sq_t ((Kp.new np (S := [])) _ _ not0 hb), _, atI_of (by decide) rfl, ?_⟩
        refine ⟨p, n, xs.take i, ls.take i, rfl, sq_l upd_same, (hst.kp kp1).take i, hn, fun H2 k2 => ?_⟩
        simp only [tSeq, tIfS, tTest, tOp, tUn, tCB, tCons, tNil, tVar, tC, rI0, rI, rU, rEq, rNe, tRet, tRetN, tAsg, gName, gSub, tBM, tBM0, tNext, tB, tNot, tAnd, tOr, tIf, tCall, tDrop, tBreak, tCont, L2.start, tDGet, sDPut, tTup, tLst, tDNewK, tRevL, rCat, rAppend, rPop, rSetL, tAndV, tOrV, tNotV, tSl, tPart, tNoPart, tM1, gTup, gCons, gNil, cxK, cxnK, List.map_cons, List.map_nil, List.length_cons, List.length_nil, List.replicate, List.cons_append, List.nil_append, List.append_nil, List.set_cons_zero, List.set_cons_succ, List.getElem?_cons_zero, List.getElem?_cons_succ, Option.some.injEq, V.ref.injEq, V.int.injEq, V.str.injEq, V.bl.injEq, V.ty.injEq, exists_eq_left', exists_eq_left, exists_and_left, List.cons.injEq, and_true, true_and, sc_ii, sc_ss, sc_bb, sc_ni, sc_in, sc_is, sc_si, sc_nn, decide_true, decide_false, reduceCtorEq, Bool.false_eq_true, if_true, if_false, ite_true, ite_false, exists_const, eq_self, false_and, and_false, or_false, false_or, exists_false, Evl.rLenS, rSum, wipe, tYes, exists_eq, exists_eq', rIxL, rIxT, rIxS, exists_and_right, gt_iff_lt, not_true_eq_false, not_false_eq_true, Bool.not_true, Bool.not_false, decide_eq_true_eq, Nat.reduceSub, Nat.reduceAdd, List.append_assoc, tChain, tDIn, tDNotIn, sDDel, tAug, ipI]
        rw [show cnt n (ls.take i) = cn n ls i from rfl]
        have kp2 := kp1.trans k2
        by_cases hc : cn n ls i = 1
        · simp only [tSeq, tIfS, tTest, tOp, tUn, tCB, tCons, tNil, tVar, tC, rI0, rI, rU, rEq, rNe, tRet, tRetN, tAsg, gName, gSub, tBM, tBM0, tNext, tB, tNot, tAnd, tOr, tIf, tCall, tDrop, tBreak, tCont, L2.start, tDGet, sDPut, tTup, tLst, tDNewK, tRevL, rCat, rAppend, rPop, rSetL, tAndV, tOrV, tNotV, tSl, tPart, tNoPart, tM1, gTup, gCons, gNil, cxK, cxnK, List.map_cons, List.map_nil, List.length_cons, List.length_nil, List.replicate, List.cons_append, List.nil_append, List.append_nil, List.set_cons_zero, List.set_cons_succ, List.getElem?_cons_zero, List.getElem?_cons_succ, Option.some.injEq, V.ref.injEq, V.int.injEq, V.str.injEq, V.bl.injEq, V.ty.injEq, exists_eq_left', exists_eq_left, exists_and_left, List.cons.injEq, and_true, true_and, sc_ii, sc_ss, sc_bb, sc_ni, sc_in, sc_is, sc_si, sc_nn, decide_true, decide_false, reduceCtorEq, Bool.false_eq_true, if_true, if_false, ite_true, ite_false, exists_const, eq_self, false_and, and_false, or_false, false_or, exists_false, Evl.rLenS, rSum, wipe, tYes, exists_eq, exists_eq', rIxL, rIxT, rIxS, exists_and_right, gt_iff_lt, not_true_eq_false, not_false_eq_true, Bool.not_true, Bool.not_false, decide_eq_true_eq, Nat.reduceSub, Nat.reduceAdd, List.append_assoc, tChain, tDIn, tDNotIn, sDDel, tAug, ipI, hc]
          refine ⟨_, rfl, fine_next hf (fun b' n' z => ?_), kp2⟩
          rw [el] at z; cases z
          exact hc
        · simp only [tSeq, tIfS, tTest, tOp, tUn, tCB, tCons, tNil, tVar, tC, rI0, rI, rU, rEq, rNe, tRet, tRetN, tAsg, gName, gSub, tBM, tBM0, tNext, tB, tNot, tAnd, tOr, tIf, tCall, tDrop, tBreak, tCont, L2.start, tDGet, sDPut, tTup, tLst, tDNewK, tRevL, rCat, rAppend, rPop, rSetL, tAndV, tOrV, tNotV, tSl, tPart, tNoPart, tM1, gTup, gCons, gNil, cxK, cxnK, List.map_cons, List.map_nil, List.length_cons, List.length_nil, List.replicate, List.cons_append, List.nil_append, List.append_nil, List.set_cons_zero, List.set_cons_succ, List.getElem?_cons_zero, List.getElem?_cons_succ, Option.some.injEq, V.ref.injEq, V.int.injEq, V.str.injEq, V.bl.injEq, V.ty.injEq, exists_eq_left', exists_eq_left, exists_and_left, List.cons.injEq, and_true, true_and, sc_ii, sc_ss, sc_bb, sc_ni, sc_in, sc_is, sc_si, sc_nn, decide_true, decide_false, reduceCtorEq, Bool.false_eq_true, if_true, if_false, ite_true, ite_false, exists_const, eq_self, false_and, and_false, or_false, false_or, exists_false, Evl.rLenS, rSum, wipe, tYes, exists_eq, exists_eq', rIxL, rIxT, rIxS, exists_and_right, gt_iff_lt, not_true_eq_false, not_false_eq_true, Bool.not_true, Bool.not_false, decide_eq_true_eq, Nat.reduceSub, Nat.reduceAdd, List.append_assoc, tChain, tDIn, tDNotIn, sDDel, tAug, ipI, hc]
          rw [ei]
          refine q (some i) H2 (.bad i (by rw [← hst.1]; exact hi') hf fun g => ?_) kp2
          exact hc (g _ _ el)
    · rintro σ H1 ⟨c, rfl, hf, k⟩
      have hf' : ∀ j, j < ls.length → fine ls j := fun j hj => hf j (by have := hst.1; omega)
      simp only [tSeq, tIfS, tTest, tOp, tUn, tCB, tCons, tNil, tVar, tC, rI0, rI, rU, rEq, rNe, tRet, tRetN, tAsg, gName, gSub, tBM, tBM0, tNext, tB, tNot, tAnd, tOr, tIf, tCall, tDrop, tBreak, tCont, L2.start, tDGet, sDPut, tTup, tLst, tDNewK, tRevL, rCat, rAppend, rPop, rSetL, tAndV, tOrV, tNotV, tSl, tPart, tNoPart, tM1, gTup, gCons, gNil, cxK, cxnK, List.map_cons, List.map_nil, List.length_cons, List.length_nil, List.replicate, List.cons_append, List.nil_append, List.append_nil, List.set_cons_zero, List.set_cons_succ, List.getElem?_cons_zero, List.getElem?_cons_succ, Option.some.injEq, V.ref.injEq, V.int.injEq, V.str.injEq, V.bl.injEq, V.ty.injEq, exists_eq_left', exists_eq_left, exists_and_left, List.cons.injEq, and_true, true_and, sc_ii, sc_ss, sc_bb, sc_ni, sc_in, sc_is, sc_si, sc_nn, decide_true, decide_false, reduceCtorEq, Bool.false_eq_true, if_true, if_false, ite_true, ite_false, exists_const, eq_self, false_and, and_false, or_false, false_or, exists_false, Evl.rLenS, rSum, wipe, tYes, exists_eq, exists_eq', rIxL, rIxT, rIxS, exists_and_right, gt_iff_lt, not_true_eq_false, not_false_eq_true, Bool.not_true, Bool.not_false, decide_eq_true_eq, Nat.reduceSub, Nat.reduceAdd, List.append_assoc, tChain, tDIn, tDNotIn, sDDel, tAug, ipI]
      refine forL (K := K) (a := lk) (xs := lks.map V.str) (WrInv2 a lk ls lks H) rfl (sq_l (k _ _ not0 hlk)) ⟨_, _, rfl, (fun j y hj => absurd hj (by omega)), k⟩ ?_ ?_ ?_
      · rintro i σ H2 _ ⟨c, d, rfl, _, k2⟩
        exact sq_l (k2 _ _ not0 hlk)
      · rintro i x σ H2 hx ⟨c, d, rfl, hz, k2⟩
        obtain ⟨y, ey, rfl⟩ : ∃ y, lks[i]? = some y ∧ x = V.str y := by
          rw [List.getElem?_map] at hx
          cases e : lks[i]? with
          | none => rw [e] at hx; cases hx
          | some u => rw [e] at hx; exact ⟨u, rfl, (Option.some.inj hx).symm⟩
        have hn := hy y (List.mem_of_getElem? ey)
        simp only [tSeq, tIfS, tTest, tOp, tUn, tCB, tCons, tNil, tVar, tC, rI0, rI, rU, rEq, rNe, tRet, tRetN, tAsg, gName, gSub, tBM, tBM0, tNext, tB, tNot, tAnd, tOr, tIf, tCall, tDrop, tBreak, tCont, L2.start, tDGet, sDPut, tTup, tLst, tDNewK, tRevL, rCat, rAppend, rPop, rSetL, tAndV, tOrV, tNotV, tSl, tPart, tNoPart, tM1, gTup, gCons, gNil, cxK, cxnK, List.map_cons, List.map_nil, List.length_cons, List.length_nil, List.replicate, List.cons_append, List.nil_append, List.append_nil, List.set_cons_zero, List.set_cons_succ, List.getElem?_cons_zero, List.getElem?_cons_succ, Option.some.injEq, V.ref.injEq, V.int.injEq, V.str.injEq, V.bl.injEq, V.ty.injEq, exists_eq_left', exists_eq_left, exists_and_left, List.cons.injEq, and_true, true_and, sc_ii, sc_ss, sc_bb, sc_ni, sc_in, sc_is, sc_si, sc_nn, decide_true, decide_false, reduceCtorEq, Bool.false_eq_true, if_true, if_false, ite_true, ite_false, exists_const, eq_self, false_and, and_false, or_false, false_or, exists_false, Evl.rLenS, rSum, wipe, tYes, exists_eq, exists_eq', rIxL, rIxT, rIxS, exists_and_right, gt_iff_lt, not_true_eq_false, not_false_eq_true, Bool.not_true, Bool.not_false, decide_eq_true_eq, Nat.reduceSub, Nat.reduceAdd, List.append_assoc, tChain, tDIn, tDNotIn, sDDel, tAug, ipI]
        refine ⟨a, y, xs, ls, rfl, sq_l (k2 _ _ not0 ha), hst.kp k2, hn, fun H3 k3 => ?_⟩
        simp only [tSeq, tIfS, tTest, tOp, tUn, tCB, tCons, tNil, tVar, tC, rI0, rI, rU, rEq, rNe, tRet, tRetN, tAsg, gName, gSub, tBM, tBM0, tNext, tB, tNot, tAnd, tOr, tIf, tCall, tDrop, tBreak, tCont, L2.start, tDGet, sDPut, tTup, tLst, tDNewK, tRevL, rCat, rAppend, rPop, rSetL, tAndV, tOrV, tNotV, tSl, tPart, tNoPart, tM1, gTup, gCons, gNil, cxK, cxnK, List.map_cons, List.map_nil, List.length_cons, List.length_nil, List.replicate, List.cons_append, List.nil_append, List.append_nil, List.set_cons_zero, List.set_cons_succ, List.getElem?_cons_zero, List.getElem?_cons_succ, Option.some.injEq, V.ref.injEq, V.int.injEq, V.str.injEq, V.bl.injEq, V.ty.injEq, exists_eq_left', exists_eq_left, exists_and_left, List.cons.injEq, and_true, true_and, sc_ii, sc_ss, sc_bb, sc_ni, sc_in, sc_is, sc_si, sc_nn, decide_true, decide_false, reduceCtorEq, Bool.false_eq_true, if_true, if_false, ite_true, ite_false, exists_const, eq_self, false_and, and_false, or_false, false_or, exists_false, Evl.rLenS, rSum, wipe, tYes, exists_eq, exists_eq', rIxL, rIxT, rIxS, exists_and_right, gt_iff_lt, not_true_eq_false, not_false_eq_true, Bool.not_true, Bool.not_false, decide_eq_true_eq, Nat.reduceSub, Nat.reduceAdd, List.append_assoc, tChain, tDIn, tDNotIn, sDDel, tAug, ipI]
        have e : cnt y ls = cn y ls ls.length := by unfold cn; rw [List.take_length]
        rw [e]
        by_cases hc : cn y ls ls.length = 0
        · simp only [tSeq, tIfS, tTest, tOp, tUn, tCB, tCons, tNil, tVar, tC, rI0, rI, rU, rEq, rNe, tRet, tRetN, tAsg, gName, gSub, tBM, tBM0, tNext, tB, tNot, tAnd, tOr, tIf, tCall, tDrop, tBreak, tCont, L2.start, tDGet, sDPut, tTup, tLst, tDNewK, tRevL, rCat, rAppend, rPop, rSetL, tAndV, tOrV, tNotV, tSl, tPart, tNoPart, tM1, gTup, gCons, gNil, cxK, cxnK, List.map_cons, List.map_nil, List.length_cons, List.length_nil, List.replicate, List.cons_append, List.nil_append, List.append_nil, List.set_cons_zero, List.set_cons_succ, List.getElem?_cons_zero, List.getElem?_cons_succ, Option.some.injEq, V.ref.injEq, V.int.injEq, V.str.injEq, V.bl.injEq, V.ty.injEq, exists_eq_left', exists_eq_left, exists_and_left, List.cons.injEq, and_true, true_and, sc_ii, sc_ss, sc_bb, sc_ni, sc_in, sc_is, sc_si, sc_nn, decide_true, decide_false, reduceCtorEq, Bool.false_eq_true, if_true, if_false, ite_true, ite_false, exists_const, eq_self, false_and, and_false, or_false, false_or, exists_false, Evl.rLenS, rSum, wipe, tYes, exists_eq, exists_eq', rIxL, rIxT, rIxS, exists_and_right, gt_iff_lt, not_true_eq_false, not_false_eq_true, Bool.not_true, Bool.not_false, decide_eq_true_eq, Nat.reduceSub, Nat.reduceAdd, List.append_assoc, tChain, tDIn, tDNotIn, sDDel, tAug, ipI, hc]
          refine ⟨_, _, rfl, fun j u hj eu => ?_, k2.trans k3⟩
          by_cases z : j = i
          · subst z
            rw [ey] at eu
            rw [← Option.some.inj eu]; exact hc
          · exact hz j u (by omega) eu
        · simp only [tSeq, tIfS, tTest, tOp, tUn, tCB, tCons, tNil, tVar, tC, rI0, rI, rU, rEq, rNe, tRet, tRetN, tAsg, gName, gSub, tBM, tBM0, tNext, tB, tNot, tAnd, tOr, tIf, tCall, tDrop, tBreak, tCont, L2.start, tDGet, sDPut, tTup, tLst, tDNewK, tRevL, rCat, rAppend, rPop, rSetL, tAndV, tOrV, tNotV, tSl, tPart, tNoPart, tM1, gTup, gCons, gNil, cxK, cxnK, List.map_cons, List.map_nil, List.length_cons, List.length_nil, List.replicate, List.cons_append, List.nil_append, List.append_nil, List.set_cons_zero, List.set_cons_succ, List.getElem?_cons_zero, List.getElem?_cons_succ, Option.some.injEq, V.ref.injEq, V.int.injEq, V.str.injEq, V.bl.injEq, V.ty.injEq, exists_eq_left', exists_eq_left, exists_and_left, List.cons.injEq, and_true, true_and, sc_ii, sc_ss, sc_bb, sc_ni, sc_in, sc_is, sc_si, sc_nn, decide_true, decide_false, reduceCtorEq, Bool.false_eq_true, if_true, if_false, ite_true, ite_false, exists_const, eq_self, false_and, and_false, or_false, false_or, exists_false, Evl.rLenS, rSum, wipe, tYes, exists_eq, exists_eq', rIxL, rIxT, rIxS, exists_and_right, gt_iff_lt, not_true_eq_false, not_false_eq_true, Bool.not_true, Bool.not_false, decide_eq_true_eq, Nat.reduceSub, Nat.reduceAdd, List.append_assoc, tChain, tDIn, tDNotIn, sDDel, tAug, ipI, hc]
          refine ⟨xs, .inl (sq_l ((k2.trans k3) _ _ not0 ha)), ?_⟩
          rw [hst.1]
          exact q (some ls.length) H3 (.held hf' ⟨y, hc⟩) (k2.trans k3)
      · rintro σ H2 ⟨c, d, rfl, hz, k2⟩
        simp only [tSeq, tIfS, tTest, tOp, tUn, tCB, tCons, tNil, tVar, tC, rI0, rI, rU, rEq, rNe, tRet, tRetN, tAsg, gName, gSub, tBM, tBM0, tNext, tB, tNot, tAnd, tOr, tIf, tCall, tDrop, tBreak, tCont, L2.start, tDGet, sDPut, tTup, tLst, tDNewK, tRevL, rCat, rAppend, rPop, rSetL, tAndV, tOrV, tNotV, tSl, tPart, tNoPart, tM1, gTup, gCons, gNil, cxK, cxnK, List.map_cons, List.map_nil, List.length_cons, List.length_nil, List.replicate, List.cons_append, List.nil_append, List.append_nil, List.set_cons_zero, List.set_cons_succ, List.getElem?_cons_zero, List.getElem?_cons_succ, Option.some.injEq, V.ref.injEq, V.int.injEq, V.str.injEq, V.bl.injEq, V.ty.injEq, exists_eq_left', exists_eq_left, exists_and_left, List.cons.injEq, and_true, true_and, sc_ii, sc_ss, sc_bb, sc_ni, sc_in, sc_is, sc_si, sc_nn, decide_true, decide_false, reduceCtorEq, Bool.false_eq_true, if_true, if_false, ite_true, ite_false, exists_const, eq_self, false_and, and_false, or_false, false_or, exists_false, Evl.rLenS, rSum, wipe, tYes, exists_eq, exists_eq', rIxL, rIxT, rIxS, exists_and_right, gt_iff_lt, not_true_eq_false, not_false_eq_true, Bool.not_true, Bool.not_false, decide_eq_true_eq, Nat.reduceSub, Nat.reduceAdd, List.append_assoc, tChain, tDIn, tDNotIn, sDDel, tAug, ipI]
        refine q none H2 (.good hf' fun n => ?_) k2
        by_cases hn : n ∈ lks
        · obtain ⟨j, ej⟩ := List.getElem?_of_mem hn
          exact hz j n (by rw [List.length_map]; exact (List.getElem?_eq_some_iff.mp ej).1) ej
        · unfold cn
          rw [List.take_length]
          refine cnt_out fun l hl b e => hn ?_
          obtain ⟨j, ej⟩ := List.getElem?_of_mem hl
          exact hnm j b n (by rw [ej, e])
end
end My

set_option Elab.async false
set_option linter.all false
set_option maxRecDepth 100000
set_option maxHeartbeats 4000000
namespace My
open PySem L2 NdefX
structure Bt4 (mg : Str → Option Value) : Prop extends Bt0 mg where
  b_isinstance : mg "isinstance" = none
  b_tuple : mg "tuple" = none
  b_bool : mg "bool" = none
  b_list : mg "list" = none
def spInt : Sp := fun vs H Q _ => ∃ i : Int, vs = [.int i] ∧ Q (.bl true) H
def dpL (ls : List Lk) (i : Nat) : List V := (List.range i).map fun j => V.int (dp ls j)
theorem dpL_at {ls : List Lk} {m j : Nat} (h : j < m) : (dpL ls m)[j]? = some (.int (dp ls j)) := by
  unfold dpL
  rw [List.getElem?_map, List.getElem?_range h]; rfl
def spPair : Sp := fun vs H Q _ => ∃ (a dl t : Addr) (b f l : Nat) (xs : List V) (ls : List Lk), vs = [.ref a, .ref dl, .ref t, .int (b : Nat)] ∧ H a = some (.lst xs) ∧ Steps H xs ls ∧ xs.length ≤ 1000 ∧ H dl = some (.lst (dpL ls (ls.length + 1))) ∧ H t = some (.tup [.int (f : Nat), .int (l : Nat)]) ∧ PairOk ls b f l ∧ ∀ H', Kp [] H H' → Q (.bl true) H'
/-- a step's first word -/
theorem word_at {K : PySem.W.Frag} {H H1 : Hp} {xs : List V} {ls : List Lk} {i : Nat} (h : Steps H xs ls) (k : Kp [] H H1) (hi : i < ls.length) : ∃ (b : Addr) (x : Str) (ps : List V) (l : Lk), atI xs (i : Int) = some (.ref b) ∧ H1 b = some (.tup (.str x :: ps)) ∧ ls[i]? = some l ∧ ((l = none ∧ x ≠ "lock" ∧ x ≠ "free") ∨ (∃ n, l = some (true, n) ∧ x = "lock") ∨ (∃ n, l = some (false, n) ∧ x = "free")) := by
  have hi' : i < xs.length := by rw [h.1]; exact hi
  have ex : xs[i]? = some xs[i] := List.getElem?_eq_getElem hi'
  obtain ⟨l, el, sv⟩ := h.2 i _ ex
  obtain ⟨b, x, ps, eb, hb, cs⟩ := (sv.kp k).at0 (K := K)
  refine ⟨b, x, ps, l, atI_of (by omega) (by rw [Int.toNat_natCast, ex, eb]), hb, el, ?_⟩
  rcases cs with c | ⟨n, c1, c2, _⟩ | ⟨n, c1, c2, _⟩
  · exact .inl c
  · exact .inr (.inl ⟨n, c1, c2⟩)
  · exact .inr (.inr ⟨n, c1, c2⟩)
def PrInv (σ0 : L2.St) (H : Hp) (_ : Nat) (σ : L2.St) (H' : Hp) : Prop := ∃ c, σ = σ0 ++ [c] ∧ Kp [] H H'
section
variable {P : Program} {w : World} {K : PySem.W.Frag} {mg : Str → Option Value} {base : Heap}
theorem ok_law_is_integer {f : Addr} {fd : FuncData} (D : Df K mg "_law_is_integer" s_law_is_integer ["_law_told"] f fd) (T : Bt4 mg) : FnOk P w K mg base CX0 1 f fd ["_law_told"] spInt := by
  refine D.F.ok sc_law_is_integer (fun vs H Q E h => ?_) (fun cdv A outer s H vs Q E hr h => ?_)
  · obtain ⟨i, rfl, _⟩ := h
    rfl
  · obtain ⟨i, rfl, q⟩ := h
    refine ⟨_, (pss_one (ps_ret (pe_and (pe_callB (id := "isinstance") (r := rIsi K) call_isi (by rfl) T.b_isinstance (by decide +kernel) (pa_cons (pv 0) (pa_cons (pe_bltn (v := .ty "int") (by rfl) T.b_int (by decide +kernel) rfl) pa_nil))) (pe_one (pe_not (pe_callB (id := "isinstance") (r := rIsi K) call_isi (by rfl) T.b_isinstance (by decide +kernel) (pa_cons (pv 0) (pa_cons (pe_bltn (v := .ty "bool") (by rfl) T.b_bool (by decide +kernel) rfl) pa_nil)))))))), ?_⟩
    simp only [tSeq, tIfS, tTest, tOp, tUn, tCB, tCons, tNil, tVar, tC, rI0, rI, rU, rEq, rNe, tRet, tRetN, tAsg, gName, gSub, tBM, tBM0, tNext, tB, tNot, tAnd, tOr, tIf, tCall, tDrop, tBreak, tCont, L2.start, tDGet, sDPut, tTup, tLst, tDNewK, tRevL, rCat, rAppend, rPop, rSetL, tAndV, tOrV, tNotV, tSl, tPart, tNoPart, tM1, gTup, gCons, gNil, cxK, cxnK, List.map_cons, List.map_nil, List.length_cons, List.length_nil, List.replicate, List.cons_append, List.nil_append, List.append_nil, List.set_cons_zero, List.set_cons_succ, List.getElem?_cons_zero, List.getElem?_cons_succ, Option.some.injEq, V.ref.injEq, V.int.injEq, V.str.injEq, V.bl.injEq, V.ty.injEq, exists_eq_left', exists_eq_left, exists_and_left, List.cons.injEq, and_true, true_and, sc_ii, sc_ss, sc_bb, sc_ni, sc_in, sc_is, sc_si, sc_nn, decide_true, decide_false, reduceCtorEq, Bool.false_eq_true, if_true, if_false, ite_true, ite_false, exists_const, eq_self, false_and, and_false, or_false, false_or, exists_false, Evl.rLenS, rSum, wipe, tYes, exists_eq, exists_eq', rIxL, rIxT, rIxS, exists_and_right, gt_iff_lt, not_true_eq_false, not_false_eq_true, Bool.not_true, Bool.not_false, decide_eq_true_eq, Nat.reduceSub, Nat.reduceAdd, List.append_assoc, tChain, tDIn, tDNotIn, sDDel, tAug, ipI]
    refine isi_int_int ?_
    simp only [tSeq, tIfS, tTest, tOp, tUn, tCB, tCons, tNil, tVar, tC, rI0, rI, rU, rEq, rNe, tRet, tRetN, tAsg, gName, gSub, tBM, tBM0, tNext, tB, tNot, tAnd, tOr, tIf, tCall, tDrop, tBreak, tCont, L2.start, tDGet, sDPut, tTup, tLst, tDNewK, tRevL, rCat, rAppend, rPop, rSetL, tAndV, tOrV, tNotV, tSl, tPart, tNoPart, tM1, gTup, gCons, gNil, cxK, cxnK, List.map_cons, List.map_nil, List.length_cons, List.length_nil, List.replicate, List.cons_append, List.nil_append, List.append_nil, List.set_cons_zero, List.set_cons_succ, List.getElem?_cons_zero, List.getElem?_cons_succ, Option.some.injEq, V.ref.injEq, V.int.injEq, V.str.injEq, V.bl.injEq, V.ty.injEq, exists_eq_left', exists_eq_left, exists_and_left, List.cons.injEq, and_true, true_and, sc_ii, sc_ss, sc_bb, sc_ni, sc_in, sc_is, sc_si, sc_nn, decide_true, decide_false, reduceCtorEq, Bool.false_eq_true, if_true, if_false, ite_true, ite_false, exists_const, eq_self, false_and, and_false, or_false, false_or, exists_false, Evl.rLenS, rSum, wipe, tYes, exists_eq, exists_eq', rIxL, rIxT, rIxS, exists_and_right, gt_iff_lt, not_true_eq_false, not_false_eq_true, Bool.not_true, Bool.not_false, decide_eq_true_eq, Nat.reduceSub, Nat.reduceAdd, List.append_assoc, tChain, tDIn, tDNotIn, sDDel, tAug, ipI]
    refine isi_int_bool ?_
    simp only [tSeq, tIfS, tTest, tOp, tUn, tCB, tCons, tNil, tVar, tC, rI0, rI, rU, rEq, rNe, tRet, tRetN, tAsg, gName, gSub, tBM, tBM0, tNext, tB, tNot, tAnd, tOr, tIf, tCall, tDrop, tBreak, tCont, L2.start, tDGet, sDPut, tTup, tLst, tDNewK, tRevL, rCat, rAppend, rPop, rSetL, tAndV, tOrV, tNotV, tSl, tPart, tNoPart, tM1, gTup, gCons, gNil, cxK, cxnK, List.map_cons, List.map_nil, List.length_cons, List.length_nil, List.replicate, List.cons_append, List.nil_append, List.append_nil, List.set_cons_zero, List.set_cons_succ, List.getElem?_cons_zero, List.getElem?_cons_succ, Option.some.injEq, V.ref.injEq, V.int.injEq, V.str.injEq, V.bl.injEq, V.ty.injEq, exists_eq_left', exists_eq_left, exists_and_left, List.cons.injEq, and_true, true_and, sc_ii, sc_ss, sc_bb, sc_ni, sc_in, sc_is, sc_si, sc_nn, decide_true, decide_false, reduceCtorEq, Bool.false_eq_true, if_true, if_false, ite_true, ite_false, exists_const, eq_self, false_and, and_false, or_false, false_or, exists_false, Evl.rLenS, rSum, wipe, tYes, exists_eq, exists_eq', rIxL, rIxT, rIxS, exists_and_right, gt_iff_lt, not_true_eq_false, not_false_eq_true, Bool.not_true, Bool.not_false, decide_eq_true_eq, Nat.reduceSub, Nat.reduceAdd, List.append_assoc, tChain, tDIn, tDNotIn, sDDel, tAug, ipI]
    exact q
theorem ok_law_pair {f : Addr} {fd : FuncData} (D : Df K mg "_law_pair" s_law_pair ["_law_steps", "_law_depth", "_law_pair_here", "_law_behind"] f fd) (T : Bt4 mg) {fi : Addr} {fdi : FuncData} (D_law_is_integer : Df K mg "_law_is_integer" s_law_is_integer ["_law_told"] fi fdi) (G_law_is_integer : FnOk P w K mg base CX0 1 fi fdi ["_law_told"] spInt) : FnOk P w K mg base CX0 2 f fd ["_law_steps", "_law_depth", "_law_pair_here", "_law_behind"] spPair := by
  refine D.F.ok sc_law_pair (fun vs H Q E h => ?_) (fun cdv A outer s H vs Q E hr h => ?_)
  · obtain ⟨a, dl, t, b, fi, l, xs, ls, rfl, _⟩ := h
    rfl
  · obtain ⟨a, dl, t, b, fi, la, xs, ls, rfl, ha, hst, hl, hd, ht, ok, q⟩ := h
    have hls := hst.1
    have k0 := Kp.refl [] H
    refine ⟨_, (pss_cons (ps_if (PW.pt (pw_or (pt_not (pt_val (pe_callB (id := "isinstance") (r := rIsi K) call_isi (by rfl) T.b_isinstance (by decide +kernel) (pa_cons (pv 2) (pa_cons (pe_bltn (v := .ty "tuple") (by rfl) T.b_tuple (by decide +kernel) rfl) pa_nil))))) (pw_or (pt_cmpR op_ne (pe_callB (id := "len") (r := Evl.rLenS K) call_len_seq (by rfl) T.b_len PySem.boot_len (pa_cons (pv 2) pa_nil)) pe_int (nomark _)) (pw_or (pt_not (pt_val (pe_call G_law_is_integer (hr.mono (by decide)) rfl D_law_is_integer.g D_law_is_integer.F.kp D_law_is_integer.b .nil pass0 (pa_cons (pe_ix (r := rIxT K) ix_tup (pv 2) pe_int (fun _ _ => rfl)) pa_nil)))) (pw_or1 (pt_not (pt_val (pe_call G_law_is_integer (hr.mono (by decide)) rfl D_law_is_integer.g D_law_is_integer.F.kp D_law_is_integer.b .nil pass0 (pa_cons (pe_ix (r := rIxT K) ix_tup (pv 2) pe_int (fun _ _ => rfl)) pa_nil))))))))) (pss_one (ps_ret pe_bl)) pss_nil)
      (pss_cons (ps_asg (pv 2) (pg_tup (n := 2) (by rfl) (pgs_cons (pg_name (i := 4) sc_law_pair.nd rfl (Or.inl rfl)) (pgs_cons (pg_name (i := 5) sc_law_pair.nd rfl (Or.inl rfl)) pgs_nil))))
      (pss_cons (ps_if (PW.pt (pw_or (pt_cmpR op_lt (pv 4) (pv 3) (nomark _)) (pw_or (pt_cmpR op_le (pv 5) (pv 4) (nomark _)) (pw_or1 (pt_cmpR op_ge (pv 5) (pe_callB (id := "len") (r := Evl.rLenS K) call_len_seq (by rfl) T.b_len PySem.boot_len (pa_cons (pv 0) pa_nil)) (nomark _)))))) (pss_one (ps_ret pe_bl)) pss_nil)
      (pss_cons (ps_if (PW.pt (pw_or (pt_cmpR op_ne (pe_ix (r := rIxT K) ix_tup (pe_ix (r := rIxL K) ix_list (pv 0) (pv 4) (fun _ _ => rfl)) pe_int (fun _ _ => rfl)) pe_str (nomark _)) (pw_or (pt_cmpR op_ne (pe_ix (r := rIxL K) ix_list (pv 1) (pv 4) (fun _ _ => rfl)) pe_int (nomark _)) (pw_or (pt_cmpR op_ne (pe_ix (r := rIxT K) ix_tup (pe_ix (r := rIxL K) ix_list (pv 0) (pv 5) (fun _ _ => rfl)) pe_int (fun _ _ => rfl)) pe_str (nomark _)) (pw_or1 (pt_cmpR op_ne (pe_ix (r := rIxL K) ix_list (pv 1) (pe_op op_add (pv 5) pe_int) (fun _ _ => rfl)) pe_int (nomark _))))))) (pss_one (ps_ret pe_bl)) pss_nil)
      (pss_cons (ps_for PassesOwn.never rfl (pi_range2 rfl T.b_range (pa_cons (pv 3) (pa_cons (pv 4) pa_nil))) (pg_name (i := 6) sc_law_pair.nd rfl (Or.inl rfl)) (pss_one (ps_if (pt_cmpR op_in_seq (pe_ix (r := rIxT K) ix_tup (pe_ix (r := rIxL K) ix_list (pv 0) (pv 6) (fun _ _ => rfl)) pe_int (fun _ _ => rfl)) (pe_tup (pa_cons pe_str (pa_cons pe_str pa_nil))) (by rfl)) (pss_one (ps_ret pe_bl)) pss_nil)))
      (pss_cons (ps_for PassesOwn.never rfl (pi_range2 rfl T.b_range (pa_cons (pe_op op_add (pv 4) pe_int) (pa_cons (pe_op op_add (pv 5) pe_int) pa_nil))) (pg_name (i := 6) sc_law_pair.nd rfl (Or.inl rfl)) (pss_one (ps_if (pt_cmpR op_eq (pe_ix (r := rIxL K) ix_list (pv 1) (pv 6) (fun _ _ => rfl)) pe_int (nomark _)) (pss_one (ps_ret pe_bl)) pss_nil)))
      (pss_one (ps_ret pe_bl)))))))), ?_⟩
    simp only [tSeq, tIfS, tTest, tOp, tUn, tCB, tCons, tNil, tVar, tC, rI0, rI, rU, rEq, rNe, tRet, tRetN, tAsg, gName, gSub, tBM, tBM0, tNext, tB, tNot, tAnd, tOr, tIf, tCall, tDrop, tBreak, tCont, L2.start, tDGet, sDPut, tTup, tLst, tDNewK, tRevL, rCat, rAppend, rPop, rSetL, tAndV, tOrV, tNotV, tSl, tPart, tNoPart, tM1, gTup, gCons, gNil, cxK, cxnK, List.map_cons, List.map_nil, List.length_cons, List.length_nil, List.replicate, List.cons_append, List.nil_append, List.append_nil, List.set_cons_zero, List.set_cons_succ, List.getElem?_cons_zero, List.getElem?_cons_succ, Option.some.injEq, V.ref.injEq, V.int.injEq, V.str.injEq, V.bl.injEq, V.ty.injEq, exists_eq_left', exists_eq_left, exists_and_left, List.cons.injEq, and_true, true_and, sc_ii, sc_ss, sc_bb, sc_ni, sc_in, sc_is, sc_si, sc_nn, decide_true, decide_false, reduceCtorEq, Bool.false_eq_true, if_true, if_false, ite_true, ite_false, exists_const, eq_self, false_and, and_false, or_false, false_or, exists_false, Evl.rLenS, rSum, wipe, tYes, exists_eq, exists_eq', rIxL, rIxT, rIxS, exists_and_right, gt_iff_lt, not_true_eq_false, not_false_eq_true, Bool.not_true, Bool.not_false, decide_eq_true_eq, Nat.reduceSub, Nat.reduceAdd, List.append_assoc, tChain, tDIn, tDNotIn, sDDel, tAug, ipI]
    refine isi_mk (.tup ht) (b := true) (by decide +kernel) ?_
    simp only [tSeq, tIfS, tTest, tOp, tUn, tCB, tCons, tNil, tVar, tC, rI0, rI, rU, rEq, rNe, tRet, tRetN, tAsg, gName, gSub, tBM, tBM0, tNext, tB, tNot, tAnd, tOr, tIf, tCall, tDrop, tBreak, tCont, L2.start, tDGet, sDPut, tTup, tLst, tDNewK, tRevL, rCat, rAppend, rPop, rSetL, tAndV, tOrV, tNotV, tSl, tPart, tNoPart, tM1, gTup, gCons, gNil, cxK, cxnK, List.map_cons, List.map_nil, List.length_cons, List.length_nil, List.replicate, List.cons_append, List.nil_append, List.append_nil, List.set_cons_zero, List.set_cons_succ, List.getElem?_cons_zero, List.getElem?_cons_succ, Option.some.injEq, V.ref.injEq, V.int.injEq, V.str.injEq, V.bl.injEq, V.ty.injEq, exists_eq_left', exists_eq_left, exists_and_left, List.cons.injEq, and_true, true_and, sc_ii, sc_ss, sc_bb, sc_ni, sc_in, sc_is, sc_si, sc_nn, decide_true, decide_false, reduceCtorEq, Bool.false_eq_true, if_true, if_false, ite_true, ite_false, exists_const, eq_self, false_and, and_false, or_false, false_or, exists_false, Evl.rLenS, rSum, wipe, tYes, exists_eq, exists_eq', rIxL, rIxT, rIxS, exists_and_right, gt_iff_lt, not_true_eq_false, not_false_eq_true, Bool.not_true, Bool.not_false, decide_eq_true_eq, Nat.reduceSub, Nat.reduceAdd, List.append_assoc, tChain, tDIn, tDNotIn, sDDel, tAug, ipI]
    refine ⟨_, .inr (sq_t ht), ?_⟩
    simp only [tSeq, tIfS, tTest, tOp, tUn, tCB, tCons, tNil, tVar, tC, rI0, rI, rU, rEq, rNe, tRet, tRetN, tAsg, gName, gSub, tBM, tBM0, tNext, tB, tNot, tAnd, tOr, tIf, tCall, tDrop, tBreak, tCont, L2.start, tDGet, sDPut, tTup, tLst, tDNewK, tRevL, rCat, rAppend, rPop, rSetL, tAndV, tOrV, tNotV, tSl, tPart, tNoPart, tM1, gTup, gCons, gNil, cxK, cxnK, List.map_cons, List.map_nil, List.length_cons, List.length_nil, List.replicate, List.cons_append, List.nil_append, List.append_nil, List.set_cons_zero, List.set_cons_succ, List.getElem?_cons_zero, List.getElem?_cons_succ, Option.some.injEq, V.ref.injEq, V.int.injEq, V.str.injEq, V.bl.injEq, V.ty.injEq, exists_eq_left', exists_eq_left, exists_and_left, List.cons.injEq, and_true, true_and, sc_ii, sc_ss, sc_bb, sc_ni, sc_in, sc_is, sc_si, sc_nn, decide_true, decide_false, reduceCtorEq, Bool.false_eq_true, if_true, if_false, ite_true, ite_false, exists_const, eq_self, false_and, and_false, or_false, false_or, exists_false, Evl.rLenS, rSum, wipe, tYes, exists_eq, exists_eq', rIxL, rIxT, rIxS, exists_and_right, gt_iff_lt, not_true_eq_false, not_false_eq_true, Bool.not_true, Bool.not_false, decide_eq_true_eq, Nat.reduceSub, Nat.reduceAdd, List.append_assoc, tChain, tDIn, tDNotIn, sDDel, tAug, ipI]
    have e2 : (((2 : Nat) : Int) = 2) = True := eq_true rfl
    simp only [tSeq, tIfS, tTest, tOp, tUn, tCB, tCons, tNil, tVar, tC, rI0, rI, rU, rEq, rNe, tRet, tRetN, tAsg, gName, gSub, tBM, tBM0, tNext, tB, tNot, tAnd, tOr, tIf, tCall, tDrop, tBreak, tCont, L2.start, tDGet, sDPut, tTup, tLst, tDNewK, tRevL, rCat, rAppend, rPop, rSetL, tAndV, tOrV, tNotV, tSl, tPart, tNoPart, tM1, gTup, gCons, gNil, cxK, cxnK, List.map_cons, List.map_nil, List.length_cons, List.length_nil, List.replicate, List.cons_append, List.nil_append, List.append_nil, List.set_cons_zero, List.set_cons_succ, List.getElem?_cons_zero, List.getElem?_cons_succ, Option.some.injEq, V.ref.injEq, V.int.injEq, V.str.injEq, V.bl.injEq, V.ty.injEq, exists_eq_left', exists_eq_left, exists_and_left, List.cons.injEq, and_true, true_and, sc_ii, sc_ss, sc_bb, sc_ni, sc_in, sc_is, sc_si, sc_nn, decide_true, decide_false, reduceCtorEq, Bool.false_eq_true, if_true, if_false, ite_true, ite_false, exists_const, eq_self, false_and, and_false, or_false, false_or, exists_false, Evl.rLenS, rSum, wipe, tYes, exists_eq, exists_eq', rIxL, rIxT, rIxS, exists_and_right, gt_iff_lt, not_true_eq_false, not_false_eq_true, Bool.not_true, Bool.not_false, decide_eq_true_eq, Nat.reduceSub, Nat.reduceAdd, List.append_assoc, tChain, tDIn, tDNotIn, sDDel, tAug, ipI, e2]
    refine ⟨_, sq_t ht, _, atI_of (by decide) rfl, _, rfl, ?_⟩
    simp only [tSeq, tIfS, tTest, tOp, tUn, tCB, tCons, tNil, tVar, tC, rI0, rI, rU, rEq, rNe, tRet, tRetN, tAsg, gName, gSub, tBM, tBM0, tNext, tB, tNot, tAnd, tOr, tIf, tCall, tDrop, tBreak, tCont, L2.start, tDGet, sDPut, tTup, tLst, tDNewK, tRevL, rCat, rAppend, rPop, rSetL, tAndV, tOrV, tNotV, tSl, tPart, tNoPart, tM1, gTup, gCons, gNil, cxK, cxnK, List.map_cons, List.map_nil, List.length_cons, List.length_nil, List.replicate, List.cons_append, List.nil_append, List.append_nil, List.set_cons_zero, List.set_cons_succ, List.getElem?_cons_zero, List.getElem?_cons_succ, Option.some.injEq, V.ref.injEq, V.int.injEq, V.str.injEq, V.bl.injEq, V.ty.injEq, exists_eq_left', exists_eq_left, exists_and_left, List.cons.injEq, and_true, true_and, sc_ii, sc_ss, sc_bb, sc_ni, sc_in, sc_is, sc_si, sc_nn, decide_true, decide_false, reduceCtorEq, Bool.false_eq_true, if_true, if_false, ite_true, ite_false, exists_const, eq_self, false_and, and_false, or_false, false_or, exists_false, Evl.rLenS, rSum, wipe, tYes, exists_eq, exists_eq', rIxL, rIxT, rIxS, exists_and_right, gt_iff_lt, not_true_eq_false, not_false_eq_true, Bool.not_true, Bool.not_false, decide_eq_true_eq, Nat.reduceSub, Nat.reduceAdd, List.append_assoc, tChain, tDIn, tDNotIn, sDDel, tAug, ipI]
    refine ⟨_, sq_t ht, _, atI_of (by decide) rfl, _, rfl, ?_⟩
    simp only [tSeq, tIfS, tTest, tOp, tUn, tCB, tCons, tNil, tVar, tC, rI0, rI, rU, rEq, rNe, tRet, tRetN, tAsg, gName, gSub, tBM, tBM0, tNext, tB, tNot, tAnd, tOr, tIf, tCall, tDrop, tBreak, tCont, L2.start, tDGet, sDPut, tTup, tLst, tDNewK, tRevL, rCat, rAppend, rPop, rSetL, tAndV, tOrV, tNotV, tSl, tPart, tNoPart, tM1, gTup, gCons, gNil, cxK, cxnK, List.map_cons, List.map_nil, List.length_cons, List.length_nil, List.replicate, List.cons_append, List.nil_append, List.append_nil, List.set_cons_zero, List.set_cons_succ, List.getElem?_cons_zero, List.getElem?_cons_succ, Option.some.injEq, V.ref.injEq, V.int.injEq, V.str.injEq, V.bl.injEq, V.ty.injEq, exists_eq_left', exists_eq_left, exists_and_left, List.cons.injEq, and_true, true_and, sc_ii, sc_ss, sc_bb, sc_ni, sc_in, sc_is, sc_si, sc_nn, decide_true, decide_false, reduceCtorEq, Bool.false_eq_true, if_true, if_false, ite_true, ite_false, exists_const, eq_self, false_and, and_false, or_false, false_or, exists_false, Evl.rLenS, rSum, wipe, tYes, exists_eq, exists_eq', rIxL, rIxT, rIxS, exists_and_right, gt_iff_lt, not_true_eq_false, not_false_eq_true, Bool.not_true, Bool.not_false, decide_eq_true_eq, Nat.reduceSub, Nat.reduceAdd, List.append_assoc, tChain, tDIn, tDNotIn, sDDel, tAug, ipI]
    refine ⟨_, sq_t ht, rfl, _, _, rfl, _, _, rfl, rfl, _, rfl, ?_⟩
    have h1 : ¬ ((fi : Nat) : Int) < (b : Nat) := by have := ok.bf; omega
    have h2 : ¬ ((la : Nat) : Int) ≤ (fi : Nat) := by have := ok.fl; omega
    rw [if_neg h1]
    refine ⟨_, rfl, _, rfl, ?_⟩
    rw [if_neg h2]
    have ll := ok.ll
    have fl := ok.fl
    have h3 : ¬ ((xs.length : Nat) : Int) ≤ (la : Nat) := by omega
    refine ⟨xs, .inl (sq_l ha), _, rfl, ?_⟩
    rw [if_neg h3]
    obtain ⟨b1, x1, p1, l1, ev1, hb1, el1, cs1⟩ := word_at (K := K) hst k0 (show fi < ls.length by omega)
    obtain ⟨b2, x2, p2, l2, ev2, hb2, el2, cs2⟩ := word_at (K := K) hst k0 ll
    obtain ⟨n1, lk1⟩ := ok.lk
    obtain ⟨n2, lk2⟩ := ok.fr
    have ex1 : x1 = "lock" := by
      rw [lk1] at el1; cases el1
      rcases cs1 with ⟨z, _⟩ | ⟨n, _, z⟩ | ⟨n, z, _⟩
      · cases z
      · exact z
      · cases z
    have ex2 : x2 = "free" := by
      rw [lk2] at el2; cases el2
      rcases cs2 with ⟨z, _⟩ | ⟨n, z, _⟩ | ⟨n, _, z⟩
      · cases z
      · cases z
      · exact z
    subst ex1 ex2
    refine ⟨xs, _, rfl, sq_l ha, _, ev1, b1, rfl, _, sq_t hb1, _, atI_of (by decide) rfl, ?_⟩
    simp only [tSeq, tIfS, tTest, tOp, tUn, tCB, tCons, tNil, tVar, tC, rI0, rI, rU, rEq, rNe, tRet, tRetN, tAsg, gName, gSub, tBM, tBM0, tNext, tB, tNot, tAnd, tOr, tIf, tCall, tDrop, tBreak, tCont, L2.start, tDGet, sDPut, tTup, tLst, tDNewK, tRevL, rCat, rAppend, rPop, rSetL, tAndV, tOrV, tNotV, tSl, tPart, tNoPart, tM1, gTup, gCons, gNil, cxK, cxnK, List.map_cons, List.map_nil, List.length_cons, List.length_nil, List.replicate, List.cons_append, List.nil_append, List.append_nil, List.set_cons_zero, List.set_cons_succ, List.getElem?_cons_zero, List.getElem?_cons_succ, Option.some.injEq, V.ref.injEq, V.int.injEq, V.str.injEq, V.bl.injEq, V.ty.injEq, exists_eq_left', exists_eq_left, exists_and_left, List.cons.injEq, and_true, true_and, sc_ii, sc_ss, sc_bb, sc_ni, sc_in, sc_is, sc_si, sc_nn, decide_true, decide_false, reduceCtorEq, Bool.false_eq_true, if_true, if_false, ite_true, ite_false, exists_const, eq_self, false_and, and_false, or_false, false_or, exists_false, Evl.rLenS, rSum, wipe, tYes, exists_eq, exists_eq', rIxL, rIxT, rIxS, exists_and_right, gt_iff_lt, not_true_eq_false, not_false_eq_true, Bool.not_true, Bool.not_false, decide_eq_true_eq, Nat.reduceSub, Nat.reduceAdd, List.append_assoc, tChain, tDIn, tDNotIn, sDDel, tAug, ipI]
    refine ⟨_, sq_l hd, _, atI_of (by omega) (by rw [Int.toNat_natCast]; exact dpL_at (show fi < ls.length + 1 by omega)), ?_⟩
    simp only [tSeq, tIfS, tTest, tOp, tUn, tCB, tCons, tNil, tVar, tC, rI0, rI, rU, rEq, rNe, tRet, tRetN, tAsg, gName, gSub, tBM, tBM0, tNext, tB, tNot, tAnd, tOr, tIf, tCall, tDrop, tBreak, tCont, L2.start, tDGet, sDPut, tTup, tLst, tDNewK, tRevL, rCat, rAppend, rPop, rSetL, tAndV, tOrV, tNotV, tSl, tPart, tNoPart, tM1, gTup, gCons, gNil, cxK, cxnK, List.map_cons, List.map_nil, List.length_cons, List.length_nil, List.replicate, List.cons_append, List.nil_append, List.append_nil, List.set_cons_zero, List.set_cons_succ, List.getElem?_cons_zero, List.getElem?_cons_succ, Option.some.injEq, V.ref.injEq, V.int.injEq, V.str.injEq, V.bl.injEq, V.ty.injEq, exists_eq_left', exists_eq_left, exists_and_left, List.cons.injEq, and_true, true_and, sc_ii, sc_ss, sc_bb, sc_ni, sc_in, sc_is, sc_si, sc_nn, decide_true, decide_false, reduceCtorEq, Bool.false_eq_true, if_true, if_false, ite_true, ite_false, exists_const, eq_self, false_and, and_false, or_false, false_or, exists_false, Evl.rLenS, rSum, wipe, tYes, exists_eq, exists_eq', rIxL, rIxT, rIxS, exists_and_right, gt_iff_lt, not_true_eq_false, not_false_eq_true, Bool.not_true, Bool.not_false, decide_eq_true_eq, Nat.reduceSub, Nat.reduceAdd, List.append_assoc, tChain, tDIn, tDNotIn, sDDel, tAug, ipI, ok.d0]
    refine ⟨xs, sq_l ha, _, ev2, b2, rfl, _, sq_t hb2, _, atI_of (by decide) rfl, ?_⟩
    simp only [tSeq, tIfS, tTest, tOp, tUn, tCB, tCons, tNil, tVar, tC, rI0, rI, rU, rEq, rNe, tRet, tRetN, tAsg, gName, gSub, tBM, tBM0, tNext, tB, tNot, tAnd, tOr, tIf, tCall, tDrop, tBreak, tCont, L2.start, tDGet, sDPut, tTup, tLst, tDNewK, tRevL, rCat, rAppend, rPop, rSetL, tAndV, tOrV, tNotV, tSl, tPart, tNoPart, tM1, gTup, gCons, gNil, cxK, cxnK, List.map_cons, List.map_nil, List.length_cons, List.length_nil, List.replicate, List.cons_append, List.nil_append, List.append_nil, List.set_cons_zero, List.set_cons_succ, List.getElem?_cons_zero, List.getElem?_cons_succ, Option.some.injEq, V.ref.injEq, V.int.injEq, V.str.injEq, V.bl.injEq, V.ty.injEq, exists_eq_left', exists_eq_left, exists_and_left, List.cons.injEq, and_true, true_and, sc_ii, sc_ss, sc_bb, sc_ni, sc_in, sc_is, sc_si, sc_nn, decide_true, decide_false, reduceCtorEq, Bool.false_eq_true, if_true, if_false, ite_true, ite_false, exists_const, eq_self, false_and, and_false, or_false, false_or, exists_false, Evl.rLenS, rSum, wipe, tYes, exists_eq, exists_eq', rIxL, rIxT, rIxS, exists_and_right, gt_iff_lt, not_true_eq_false, not_false_eq_true, Bool.not_true, Bool.not_false, decide_eq_true_eq, Nat.reduceSub, Nat.reduceAdd, List.append_assoc, tChain, tDIn, tDNotIn, sDDel, tAug, ipI]
    refine ⟨_, sq_l hd, _, atI_of (by omega) (by rw [show ((la : Int) + 1).toNat = la + 1 by omega]; exact dpL_at (show la + 1 < ls.length + 1 by omega)), ?_⟩
    simp only [tSeq, tIfS, tTest, tOp, tUn, tCB, tCons, tNil, tVar, tC, rI0, rI, rU, rEq, rNe, tRet, tRetN, tAsg, gName, gSub, tBM, tBM0, tNext, tB, tNot, tAnd, tOr, tIf, tCall, tDrop, tBreak, tCont, L2.start, tDGet, sDPut, tTup, tLst, tDNewK, tRevL, rCat, rAppend, rPop, rSetL, tAndV, tOrV, tNotV, tSl, tPart, tNoPart, tM1, gTup, gCons, gNil, cxK, cxnK, List.map_cons, List.map_nil, List.length_cons, List.length_nil, List.replicate, List.cons_append, List.nil_append, List.append_nil, List.set_cons_zero, List.set_cons_succ, List.getElem?_cons_zero, List.getElem?_cons_succ, Option.some.injEq, V.ref.injEq, V.int.injEq, V.str.injEq, V.bl.injEq, V.ty.injEq, exists_eq_left', exists_eq_left, exists_and_left, List.cons.injEq, and_true, true_and, sc_ii, sc_ss, sc_bb, sc_ni, sc_in, sc_is, sc_si, sc_nn, decide_true, decide_false, reduceCtorEq, Bool.false_eq_true, if_true, if_false, ite_true, ite_false, exists_const, eq_self, false_and, and_false, or_false, false_or, exists_false, Evl.rLenS, rSum, wipe, tYes, exists_eq, exists_eq', rIxL, rIxT, rIxS, exists_and_right, gt_iff_lt, not_true_eq_false, not_false_eq_true, Bool.not_true, Bool.not_false, decide_eq_true_eq, Nat.reduceSub, Nat.reduceAdd, List.append_assoc, tChain, tDIn, tDNotIn, sDDel, tAug, ipI, ok.d1]
    refine ⟨.int (b : Nat), rfl, .int (fi : Nat), rfl, (b : Int), (fi : Int), rfl, ⟨by omega, by omega, by omega, by omega⟩, for_range (lo := (b : Int)) (n := ((fi : Int) - (b : Int)).toNat) (PrInv [some (.ref a), some (.ref dl), some (.ref t), some (.int (b : Nat)), some (.int (fi : Nat)), some (.int (la : Nat))] H) ⟨_, rfl, k0⟩ ?_ ?_⟩
    · rintro i σ H1 hi ⟨c, rfl, k⟩
      have hb : b + i < fi := by omega
      obtain ⟨b3, x3, p3, l3, ev3, hb3, el3, cs3⟩ := word_at (K := K) hst k (show b + i < ls.length by omega)
      have en := ok.ah (b + i) (by omega) hb
      rw [en] at el3; cases el3
      have c3 : x3 ≠ "lock" ∧ x3 ≠ "free" := by
        rcases cs3 with ⟨_, z⟩ | ⟨n, z, _⟩ | ⟨n, z, _⟩
        · exact z
        · cases z
        · cases z
      have ee : (b : Int) + (i : Int) = ((b + i : Nat) : Int) := by omega
      simp only [tSeq, tIfS, tTest, tOp, tUn, tCB, tCons, tNil, tVar, tC, rI0, rI, rU, rEq, rNe, tRet, tRetN, tAsg, gName, gSub, tBM, tBM0, tNext, tB, tNot, tAnd, tOr, tIf, tCall, tDrop, tBreak, tCont, L2.start, tDGet, sDPut, tTup, tLst, tDNewK, tRevL, rCat, rAppend, rPop, rSetL, tAndV, tOrV, tNotV, tSl, tPart, tNoPart, tM1, gTup, gCons, gNil, cxK, cxnK, List.map_cons, List.map_nil, List.length_cons, List.length_nil, List.replicate, List.cons_append, List.nil_append, List.append_nil, List.set_cons_zero, List.set_cons_succ, List.getElem?_cons_zero, List.getElem?_cons_succ, Option.some.injEq, V.ref.injEq, V.int.injEq, V.str.injEq, V.bl.injEq, V.ty.injEq, exists_eq_left', exists_eq_left, exists_and_left, List.cons.injEq, and_true, true_and, sc_ii, sc_ss, sc_bb, sc_ni, sc_in, sc_is, sc_si, sc_nn, decide_true, decide_false, reduceCtorEq, Bool.false_eq_true, if_true, if_false, ite_true, ite_false, exists_const, eq_self, false_and, and_false, or_false, false_or, exists_false, Evl.rLenS, rSum, wipe, tYes, exists_eq, exists_eq', rIxL, rIxT, rIxS, exists_and_right, gt_iff_lt, not_true_eq_false, not_false_eq_true, Bool.not_true, Bool.not_false, decide_eq_true_eq, Nat.reduceSub, Nat.reduceAdd, List.append_assoc, tChain, tDIn, tDNotIn, sDDel, tAug, ipI]
      refine ⟨xs, sq_l (k _ _ not0 ha), _, by rw [ee]; exact ev3, b3, rfl, _, sq_t hb3, _, atI_of (by decide) rfl, small (by decide), fun p np => ?_⟩
      refine ⟨p, _, rfl, .inr (sq_t upd_same), rfl, rfl, ?_⟩
      have inL : inV (.str x3) [.str "lock", .str "free"] = (("lock" == x3) || (("free" == x3) || false)) := rfl
      rw [inL, beq_eq_false_iff_ne.mpr (Ne.symm c3.1), beq_eq_false_iff_ne.mpr (Ne.symm c3.2)]
      simp only [tSeq, tIfS, tTest, tOp, tUn, tCB, tCons, tNil, tVar, tC, rI0, rI, rU, rEq, rNe, tRet, tRetN, tAsg, gName, gSub, tBM, tBM0, tNext, tB, tNot, tAnd, tOr, tIf, tCall, tDrop, tBreak, tCont, L2.start, tDGet, sDPut, tTup, tLst, tDNewK, tRevL, rCat, rAppend, rPop, rSetL, tAndV, tOrV, tNotV, tSl, tPart, tNoPart, tM1, gTup, gCons, gNil, cxK, cxnK, List.map_cons, List.map_nil, List.length_cons, List.length_nil, List.replicate, List.cons_append, List.nil_append, List.append_nil, List.set_cons_zero, List.set_cons_succ, List.getElem?_cons_zero, List.getElem?_cons_succ, Option.some.injEq, V.ref.injEq, V.int.injEq, V.str.injEq, V.bl.injEq, V.ty.injEq, exists_eq_left', exists_eq_left, exists_and_left, List.cons.injEq, and_true, true_and, sc_ii, sc_ss, sc_bb, sc_ni, sc_in, sc_is, sc_si, sc_nn, decide_true, decide_false, reduceCtorEq, Bool.false_eq_true, if_true, if_false, ite_true, ite_false, exists_const, eq_self, false_and, and_false, or_false, false_or, exists_false, Evl.rLenS, rSum, wipe, tYes, exists_eq, exists_eq', rIxL, rIxT, rIxS, exists_and_right, gt_iff_lt, not_true_eq_false, not_false_eq_true, Bool.not_true, Bool.not_false, decide_eq_true_eq, Nat.reduceSub, Nat.reduceAdd, List.append_assoc, tChain, tDIn, tDNotIn, sDDel, tAug, ipI, Bool.or_false]
      exact ⟨_, rfl, k.trans (Kp.new np)⟩
    · rintro σ H1 ⟨c, rfl, k⟩
      simp only [tSeq, tIfS, tTest, tOp, tUn, tCB, tCons, tNil, tVar, tC, rI0, rI, rU, rEq, rNe, tRet, tRetN, tAsg, gName, gSub, tBM, tBM0, tNext, tB, tNot, tAnd, tOr, tIf, tCall, tDrop, tBreak, tCont, L2.start, tDGet, sDPut, tTup, tLst, tDNewK, tRevL, rCat, rAppend, rPop, rSetL, tAndV, tOrV, tNotV, tSl, tPart, tNoPart, tM1, gTup, gCons, gNil, cxK, cxnK, List.map_cons, List.map_nil, List.length_cons, List.length_nil, List.replicate, List.cons_append, List.nil_append, List.append_nil, List.set_cons_zero, List.set_cons_succ, List.getElem?_cons_zero, List.getElem?_cons_succ, Option.some.injEq, V.ref.injEq, V.int.injEq, V.str.injEq, V.bl.injEq, V.ty.injEq, exists_eq_left', exists_eq_left, exists_and_left, List.cons.injEq, and_true, true_and, sc_ii, sc_ss, sc_bb, sc_ni, sc_in, sc_is, sc_si, sc_nn, decide_true, decide_false, reduceCtorEq, Bool.false_eq_true, if_true, if_false, ite_true, ite_false, exists_const, eq_self, false_and, and_false, or_false, false_or, exists_false, Evl.rLenS, rSum, wipe, tYes, exists_eq, exists_eq', rIxL, rIxT, rIxS, exists_and_right, gt_iff_lt, not_true_eq_false, not_false_eq_true, Bool.not_true, Bool.not_false, decide_eq_true_eq, Nat.reduceSub, Nat.reduceAdd, List.append_assoc, tChain, tDIn, tDNotIn, sDDel, tAug, ipI]
      refine ⟨.int (fi : Nat), rfl, (fi : Int), 1, rfl, rfl, .int (la : Nat), rfl, (la : Int), 1, rfl, rfl, (fi : Int) + 1, (la : Int) + 1, rfl, ⟨by omega, by omega, by omega, by omega⟩, for_range (lo := (fi : Int) + 1) (n := (((la : Int) + 1) - ((fi : Int) + 1)).toNat) (PrInv [some (.ref a), some (.ref dl), some (.ref t), some (.int (b : Nat)), some (.int (fi : Nat)), some (.int (la : Nat))] H) ⟨_, rfl, k⟩ ?_ ?_⟩
      · rintro i σ H2 hi ⟨c, rfl, k2⟩
        simp only [tSeq, tIfS, tTest, tOp, tUn, tCB, tCons, tNil, tVar, tC, rI0, rI, rU, rEq, rNe, tRet, tRetN, tAsg, gName, gSub, tBM, tBM0, tNext, tB, tNot, tAnd, tOr, tIf, tCall, tDrop, tBreak, tCont, L2.start, tDGet, sDPut, tTup, tLst, tDNewK, tRevL, rCat, rAppend, rPop, rSetL, tAndV, tOrV, tNotV, tSl, tPart, tNoPart, tM1, gTup, gCons, gNil, cxK, cxnK, List.map_cons, List.map_nil, List.length_cons, List.length_nil, List.replicate, List.cons_append, List.nil_append, List.append_nil, List.set_cons_zero, List.set_cons_succ, List.getElem?_cons_zero, List.getElem?_cons_succ, Option.some.injEq, V.ref.injEq, V.int.injEq, V.str.injEq, V.bl.injEq, V.ty.injEq, exists_eq_left', exists_eq_left, exists_and_left, List.cons.injEq, and_true, true_and, sc_ii, sc_ss, sc_bb, sc_ni, sc_in, sc_is, sc_si, sc_nn, decide_true, decide_false, reduceCtorEq, Bool.false_eq_true, if_true, if_false, ite_true, ite_false, exists_const, eq_self, false_and, and_false, or_false, false_or, exists_false, Evl.rLenS, rSum, wipe, tYes, exists_eq, exists_eq', rIxL, rIxT, rIxS, exists_and_right, gt_iff_lt, not_true_eq_false, not_false_eq_true, Bool.not_true, Bool.not_false, decide_eq_true_eq, Nat.reduceSub, Nat.reduceAdd, List.append_assoc, tChain, tDIn, tDNotIn, sDDel, tAug, ipI]
        have hn := ok.inn (fi + 1 + i) (by omega) (by omega)
        refine ⟨_, sq_l (k2 _ _ not0 hd), _, atI_of (by omega) (by rw [show ((fi : Int) + 1 + (i : Int)).toNat = fi + 1 + i by omega]; exact dpL_at (show fi + 1 + i < ls.length + 1 by omega)), ?_⟩
        simp only [tSeq, tIfS, tTest, tOp, tUn, tCB, tCons, tNil, tVar, tC, rI0, rI, rU, rEq, rNe, tRet, tRetN, tAsg, gName, gSub, tBM, tBM0, tNext, tB, tNot, tAnd, tOr, tIf, tCall, tDrop, tBreak, tCont, L2.start, tDGet, sDPut, tTup, tLst, tDNewK, tRevL, rCat, rAppend, rPop, rSetL, tAndV, tOrV, tNotV, tSl, tPart, tNoPart, tM1, gTup, gCons, gNil, cxK, cxnK, List.map_cons, List.map_nil, List.length_cons, List.length_nil, List.replicate, List.cons_append, List.nil_append, List.append_nil, List.set_cons_zero, List.set_cons_succ, List.getElem?_cons_zero, List.getElem?_cons_succ, Option.some.injEq, V.ref.injEq, V.int.injEq, V.str.injEq, V.bl.injEq, V.ty.injEq, exists_eq_left', exists_eq_left, exists_and_left, List.cons.injEq, and_true, true_and, sc_ii, sc_ss, sc_bb, sc_ni, sc_in, sc_is, sc_si, sc_nn, decide_true, decide_false, reduceCtorEq, Bool.false_eq_true, if_true, if_false, ite_true, ite_false, exists_const, eq_self, false_and, and_false, or_false, false_or, exists_false, Evl.rLenS, rSum, wipe, tYes, exists_eq, exists_eq', rIxL, rIxT, rIxS, exists_and_right, gt_iff_lt, not_true_eq_false, not_false_eq_true, Bool.not_true, Bool.not_false, decide_eq_true_eq, Nat.reduceSub, Nat.reduceAdd, List.append_assoc, tChain, tDIn, tDNotIn, sDDel, tAug, ipI, hn]
        exact ⟨_, rfl, k2⟩
      · rintro σ H2 ⟨c, rfl, k2⟩
        simp only [tSeq, tIfS, tTest, tOp, tUn, tCB, tCons, tNil, tVar, tC, rI0, rI, rU, rEq, rNe, tRet, tRetN, tAsg, gName, gSub, tBM, tBM0, tNext, tB, tNot, tAnd, tOr, tIf, tCall, tDrop, tBreak, tCont, L2.start, tDGet, sDPut, tTup, tLst, tDNewK, tRevL, rCat, rAppend, rPop, rSetL, tAndV, tOrV, tNotV, tSl, tPart, tNoPart, tM1, gTup, gCons, gNil, cxK, cxnK, List.map_cons, List.map_nil, List.length_cons, List.length_nil, List.replicate, List.cons_append, List.nil_append, List.append_nil, List.set_cons_zero, List.set_cons_succ, List.getElem?_cons_zero, List.getElem?_cons_succ, Option.some.injEq, V.ref.injEq, V.int.injEq, V.str.injEq, V.bl.injEq, V.ty.injEq, exists_eq_left', exists_eq_left, exists_and_left, List.cons.injEq, and_true, true_and, sc_ii, sc_ss, sc_bb, sc_ni, sc_in, sc_is, sc_si, sc_nn, decide_true, decide_false, reduceCtorEq, Bool.false_eq_true, if_true, if_false, ite_true, ite_false, exists_const, eq_self, false_and, and_false, or_false, false_or, exists_false, Evl.rLenS, rSum, wipe, tYes, exists_eq, exists_eq', rIxL, rIxT, rIxS, exists_and_right, gt_iff_lt, not_true_eq_false, not_false_eq_true, Bool.not_true, Bool.not_false, decide_eq_true_eq, Nat.reduceSub, Nat.reduceAdd, List.append_assoc, tChain, tDIn, tDNotIn, sDDel, tAug, ipI]
        exact q H2 k2
theorem Secs.split {ls : List Lk} {ps : List (Nat × Nat)} {b : Nat} (h : Secs ls ps b) : ∀ (k : Nat) (p : Nat × Nat), ps[k]? = some p → ∃ b', Secs ls (ps.take k) b' ∧ PairOk ls b' p.1 p.2 := by
  induction h with
  | nil => intro k p e; nomatch e
  | @snoc ps b f l h ok ih =>
    intro k p e
    by_cases hk : k < ps.length
    · rw [List.getElem?_append_left hk] at e
      rw [List.take_append_of_le_length (by omega)]
      exact ih k p e
    · have hl := (List.getElem?_eq_some_iff.mp e).1
      rw [List.length_append, List.length_singleton] at hl
      have hk' : k = ps.length := by omega
      subst hk'
      rw [List.getElem?_concat_length] at e
      cases e
      rw [List.take_append_of_le_length (Nat.le_refl _), List.take_length]
      exact ⟨b, h, ok⟩
def bOf (ps : List (Nat × Nat)) : Nat := match ps.getLast? with
  | none => 0
  | some p => p.2 + 1
theorem Secs.bOf {ls : List Lk} {ps : List (Nat × Nat)} {b : Nat} (h : Secs ls ps b) : b = bOf ps := by
  cases h with
  | nil => rfl
  | snoc h ok => unfold My.bOf; rw [List.getLast?_concat]
def spRight : Sp := fun vs H Q _ => ∃ (a tl : Addr) (xs us : List V) (ls : List Lk) (ps : List (Nat × Nat)) (b : Nat), vs = [.ref a, .ref tl] ∧ H a = some (.lst xs) ∧ Steps H xs ls ∧ xs.length ≤ 1000 ∧ H tl = some (.lst us) ∧ Prs H us ps ∧ Secs ls ps b ∧ b ≤ ls.length ∧ (∀ j, b ≤ j → j < ls.length → ls[j]? = some none) ∧ ∀ H', Kp [] H H' → Q (.bl true) H'
def DpInv (a tl dl : Addr) (ls : List Lk) (H : Hp) (i : Nat) (σ : L2.St) (H' : Hp) : Prop := ∃ c, σ = [some (.ref a), some (.ref tl), some (.ref dl), c, none, none, none] ∧ H' dl = some (.lst (dpL ls (i + 1))) ∧ Kp [] H H'
def TdInv (a tl dl : Addr) (ls : List Lk) (ps : List (Nat × Nat)) (H : Hp) (i : Nat) (σ : L2.St) (H' : Hp) : Prop := ∃ c d, σ = [some (.ref a), some (.ref tl), some (.ref dl), c, some (.int (bOf (ps.take i) : Nat)), d, none] ∧ H' dl = some (.lst (dpL ls (ls.length + 1))) ∧ Kp [] H H'
theorem dpL_succ {ls : List Lk} {i : Nat} : dpL ls (i + 1) = dpL ls i ++ [V.int (dp ls i)] := by
  unfold dpL
  rw [List.range_succ, List.map_append]; rfl
theorem dpL_len {ls : List Lk} {i : Nat} : (dpL ls i).length = i := by
  unfold dpL
  rw [List.length_map, List.length_range]
theorem ok_law_right {f : Addr} {fd : FuncData} (D : Df K mg "_law_right" s_law_right ["_law_steps", "_law_told"] f fd) (T : Bt4 mg) {fp : Addr} {fdp : FuncData} (D_law_pair : Df K mg "_law_pair" s_law_pair ["_law_steps", "_law_depth", "_law_pair_here", "_law_behind"] fp fdp) (G_law_pair : FnOk P w K mg base CX0 2 fp fdp ["_law_steps", "_law_depth", "_law_pair_here", "_law_behind"] spPair) : FnOk P w K mg base CX0 3 f fd ["_law_steps", "_law_told"] spRight := by
  refine D.F.ok sc_law_right (fun vs H Q E h => ?_) (fun cdv A outer s H vs Q E hr h => ?_)
  · obtain ⟨a, tl, xs, us, ls, ps, b, rfl, _⟩ := h
    rfl
  · obtain ⟨a, tl, xs, us, ls, ps, b, rfl, ha, hst, hl, htl, hps, hse, hb, htail, q⟩ := h
    have hls := hst.1
    refine ⟨_, (pss_cons (ps_set (i := 2) sc_law_right.nd rfl (Or.inl rfl) (pe_lst (pa_cons pe_int pa_nil)))
      (pss_cons (ps_for PassesOwn.never rfl (pi_list (pv 0)) (pg_name (i := 3) sc_law_right.nd rfl (Or.inl rfl)) (pss_one (ps_expr (pe_bm PySem.F.plainAttrs_list PySem.F.slot_list_append PySem.F.type_list_append mt_append (pv 2) (pa_cons (pe_op op_sub (pe_op op_add (pe_ix (r := rIxL K) ix_list (pv 2) (pe_un un_neg pe_int) (fun _ _ => rfl)) (pe_callTy (T := "int") call_int1 (by rfl) T.b_int (by decide +kernel) (pa_cons (pe_cmpR op_eq (pe_ix (r := rIxT K) ix_tup (pv 3) pe_int (fun _ _ => rfl)) pe_str (nomark _)) pa_nil))) (pe_callTy (T := "int") call_int1 (by rfl) T.b_int (by decide +kernel) (pa_cons (pe_cmpR op_eq (pe_ix (r := rIxT K) ix_tup (pv 3) pe_int (fun _ _ => rfl)) pe_str (nomark _)) pa_nil))) pa_nil)))))
      (pss_cons (ps_if (pt_not (pt_val (pe_callB (id := "isinstance") (r := rIsi K) call_isi (by rfl) T.b_isinstance (by decide +kernel) (pa_cons (pv 1) (pa_cons (pe_bltn (v := .ty "list") (by rfl) T.b_list (by decide +kernel) rfl) pa_nil))))) (pss_one (ps_ret pe_bl)) pss_nil)
      (pss_cons (ps_set (i := 4) sc_law_right.nd rfl (Or.inl rfl) pe_int)
      (pss_cons (ps_for PassesOwn.never rfl (pi_list (pv 1)) (pg_name (i := 5) sc_law_right.nd rfl (Or.inl rfl)) (pss_cons (ps_if (pt_not (pt_val (pe_call G_law_pair (hr.mono (by decide)) rfl D_law_pair.g D_law_pair.F.kp D_law_pair.b .nil pass0 (pa_cons (pv 0) (pa_cons (pv 2) (pa_cons (pv 5) (pa_cons (pv 4) pa_nil))))))) (pss_one (ps_ret pe_bl)) pss_nil)
      (pss_one (ps_set (i := 4) sc_law_right.nd rfl (Or.inl rfl) (pe_op op_add (pe_ix (r := rIxT K) ix_tup (pv 5) pe_int (fun _ _ => rfl)) pe_int)))))
      (pss_cons (ps_for PassesOwn.never rfl (pi_range2 rfl T.b_range (pa_cons (pv 4) (pa_cons (pe_callB (id := "len") (r := Evl.rLenS K) call_len_seq (by rfl) T.b_len PySem.boot_len (pa_cons (pv 0) pa_nil)) pa_nil))) (pg_name (i := 6) sc_law_right.nd rfl (Or.inl rfl)) (pss_one (ps_if (pt_cmpR op_in_seq (pe_ix (r := rIxT K) ix_tup (pe_ix (r := rIxL K) ix_list (pv 0) (pv 6) (fun _ _ => rfl)) pe_int (fun _ _ => rfl)) (pe_tup (pa_cons pe_str (pa_cons pe_str pa_nil))) (by rfl)) (pss_one (ps_ret pe_bl)) pss_nil)))
      (pss_one (ps_ret pe_bl)))))))), ?_⟩
    simp only [tSeq, tIfS, tTest, tOp, tUn, tCB, tCons, tNil, tVar, tC, rI0, rI, rU, rEq, rNe, tRet, tRetN, tAsg, gName, gSub, tBM, tBM0, tNext, tB, tNot, tAnd, tOr, tIf, tCall, tDrop, tBreak, tCont, L2.start, tDGet, sDPut, tTup, tLst, tDNewK, tRevL, rCat, rAppend, rPop, rSetL, tAndV, tOrV, tNotV, tSl, tPart, tNoPart, tM1, gTup, gCons, gNil, cxK, cxnK, List.map_cons, List.map_nil, List.length_cons, List.length_nil, List.replicate, List.cons_append, List.nil_append, List.append_nil, List.set_cons_zero, List.set_cons_succ, List.getElem?_cons_zero, List.getElem?_cons_succ, Option.some.injEq, V.ref.injEq, V.int.injEq, V.str.injEq, V.bl.injEq, V.ty.injEq, exists_eq_left', exists_eq_left, exists_and_left, List.cons.injEq, and_true, true_and, sc_ii, sc_ss, sc_bb, sc_ni, sc_in, sc_is, sc_si, sc_nn, decide_true, decide_false, reduceCtorEq, Bool.false_eq_true, if_true, if_false, ite_true, ite_false, exists_const, eq_self, false_and, and_false, or_false, false_or, exists_false, Evl.rLenS, rSum, wipe, tYes, exists_eq, exists_eq', rIxL, rIxT, rIxS, exists_and_right, gt_iff_lt, not_true_eq_false, not_false_eq_true, Bool.not_true, Bool.not_false, decide_eq_true_eq, Nat.reduceSub, Nat.reduceAdd, List.append_assoc, tChain, tDIn, tDNotIn, sDDel, tAug, ipI]
    refine ⟨small (by decide), fun dl nd => ?_⟩
    have kd : Kp [] H (upd H dl (.lst [V.int 0])) := Kp.new nd
    refine forL (K := K) (a := a) (xs := xs) (DpInv a tl dl ls H) rfl (sq_l (kd _ _ not0 ha)) ⟨_, rfl, upd_same, kd⟩ ?_ ?_ ?_
    · rintro i σ H1 _ ⟨c, rfl, _, k⟩
      exact sq_l (k _ _ not0 ha)
    · rintro i x σ H1 hx ⟨c, rfl, hd, k⟩
      obtain ⟨l, el, sv⟩ := hst.2 i x hx
      obtain ⟨b3, x3, p3, rfl, hb3, cs3⟩ := (sv.kp k).at0 (K := K)
      have hi := (List.getElem?_eq_some_iff.mp hx).1
      have hd' : H1 dl = some (.lst (dpL ls i ++ [V.int (dp ls i)])) := by rw [← dpL_succ]; exact hd
      simp only [tSeq, tIfS, tTest, tOp, tUn, tCB, tCons, tNil, tVar, tC, rI0, rI, rU, rEq, rNe, tRet, tRetN, tAsg, gName, gSub, tBM, tBM0, tNext, tB, tNot, tAnd, tOr, tIf, tCall, tDrop, tBreak, tCont, L2.start, tDGet, sDPut, tTup, tLst, tDNewK, tRevL, rCat, rAppend, rPop, rSetL, tAndV, tOrV, tNotV, tSl, tPart, tNoPart, tM1, gTup, gCons, gNil, cxK, cxnK, List.map_cons, List.map_nil, List.length_cons, List.length_nil, List.replicate, List.cons_append, List.nil_append, List.append_nil, List.set_cons_zero, List.set_cons_succ, List.getElem?_cons_zero, List.getElem?_cons_succ, Option.some.injEq, V.ref.injEq, V.int.injEq, V.str.injEq, V.bl.injEq, V.ty.injEq, exists_eq_left', exists_eq_left, exists_and_left, List.cons.injEq, and_true, true_and, sc_ii, sc_ss, sc_bb, sc_ni, sc_in, sc_is, sc_si, sc_nn, decide_true, decide_false, reduceCtorEq, Bool.false_eq_true, if_true, if_false, ite_true, ite_false, exists_const, eq_self, false_and, and_false, or_false, false_or, exists_false, Evl.rLenS, rSum, wipe, tYes, exists_eq, exists_eq', rIxL, rIxT, rIxS, exists_and_right, gt_iff_lt, not_true_eq_false, not_false_eq_true, Bool.not_true, Bool.not_false, decide_eq_true_eq, Nat.reduceSub, Nat.reduceAdd, List.append_assoc, tChain, tDIn, tDNotIn, sDDel, tAug, ipI]
      have fl1 : (Str.ofString "free" = Str.ofString "lock") = False := eq_false free_lock
      have fl2 : (Str.ofString "lock" = Str.ofString "free") = False := eq_false (Ne.symm free_lock)
      have fin : ∀ v : Int, v = dp ls (i + 1) → ∃ ys, H1 dl = some (.lst ys) ∧ ys.length < sizeLine ∧ DpInv a tl dl ls H (i + 1) [some (.ref a), some (.ref tl), some (.ref dl), some (.ref b3), none, none, none] (upd H1 dl (.lst (ys ++ [.int v]))) := fun v hv => by
        refine ⟨_, hd, by rw [dpL_len]; exact smallL (by omega), _, rfl, ?_, k.wr nd⟩
        rw [upd_same, hv, dpL_succ (i := i + 1)]
      refine ⟨.inl ⟨rfl, _, sq_l hd'⟩, _, sq_l hd', _, atI_last _ _, ?_⟩
      refine ⟨_, sq_t hb3, _, atI_of (by decide) rfl, rfl, _, rfl, _, sq_t hb3, _, atI_of (by decide) rfl, rfl, ?_⟩
      refine fin _ ?_
      rw [dp_next el]
      rcases cs3 with ⟨rfl, z1, z2⟩ | ⟨n, rfl, rfl, _⟩ | ⟨n, rfl, rfl, _⟩
      · simp only [V.str.injEq, z1, z2, if_false, one]; omega
      · simp only [V.str.injEq, eq_self, fl2, if_false, if_true, one]; omega
      · simp only [V.str.injEq, eq_self, fl1, if_false, if_true, one]; omega
    · rintro σ H1 ⟨c, rfl, hd, k⟩
      rw [hls] at hd
      simp only [tSeq, tIfS, tTest, tOp, tUn, tCB, tCons, tNil, tVar, tC, rI0, rI, rU, rEq, rNe, tRet, tRetN, tAsg, gName, gSub, tBM, tBM0, tNext, tB, tNot, tAnd, tOr, tIf, tCall, tDrop, tBreak, tCont, L2.start, tDGet, sDPut, tTup, tLst, tDNewK, tRevL, rCat, rAppend, rPop, rSetL, tAndV, tOrV, tNotV, tSl, tPart, tNoPart, tM1, gTup, gCons, gNil, cxK, cxnK, List.map_cons, List.map_nil, List.length_cons, List.length_nil, List.replicate, List.cons_append, List.nil_append, List.append_nil, List.set_cons_zero, List.set_cons_succ, List.getElem?_cons_zero, List.getElem?_cons_succ, Option.some.injEq, V.ref.injEq, V.int.injEq, V.str.injEq, V.bl.injEq, V.ty.injEq, exists_eq_left', exists_eq_left, exists_and_left, List.cons.injEq, and_true, true_and, sc_ii, sc_ss, sc_bb, sc_ni, sc_in, sc_is, sc_si, sc_nn, decide_true, decide_false, reduceCtorEq, Bool.false_eq_true, if_true, if_false, ite_true, ite_false, exists_const, eq_self, false_and, and_false, or_false, false_or, exists_false, Evl.rLenS, rSum, wipe, tYes, exists_eq, exists_eq', rIxL, rIxT, rIxS, exists_and_right, gt_iff_lt, not_true_eq_false, not_false_eq_true, Bool.not_true, Bool.not_false, decide_eq_true_eq, Nat.reduceSub, Nat.reduceAdd, List.append_assoc, tChain, tDIn, tDNotIn, sDDel, tAug, ipI]
      refine isi_mk (.lst (k _ _ not0 htl)) (b := true) (by decide +kernel) ?_
      simp only [tSeq, tIfS, tTest, tOp, tUn, tCB, tCons, tNil, tVar, tC, rI0, rI, rU, rEq, rNe, tRet, tRetN, tAsg, gName, gSub, tBM, tBM0, tNext, tB, tNot, tAnd, tOr, tIf, tCall, tDrop, tBreak, tCont, L2.start, tDGet, sDPut, tTup, tLst, tDNewK, tRevL, rCat, rAppend, rPop, rSetL, tAndV, tOrV, tNotV, tSl, tPart, tNoPart, tM1, gTup, gCons, gNil, cxK, cxnK, List.map_cons, List.map_nil, List.length_cons, List.length_nil, List.replicate, List.cons_append, List.nil_append, List.append_nil, List.set_cons_zero, List.set_cons_succ, List.getElem?_cons_zero, List.getElem?_cons_succ, Option.some.injEq, V.ref.injEq, V.int.injEq, V.str.injEq, V.bl.injEq, V.ty.injEq, exists_eq_left', exists_eq_left, exists_and_left, List.cons.injEq, and_true, true_and, sc_ii, sc_ss, sc_bb, sc_ni, sc_in, sc_is, sc_si, sc_nn, decide_true, decide_false, reduceCtorEq, Bool.false_eq_true, if_true, if_false, ite_true, ite_false, exists_const, eq_self, false_and, and_false, or_false, false_or, exists_false, Evl.rLenS, rSum, wipe, tYes, exists_eq, exists_eq', rIxL, rIxT, rIxS, exists_and_right, gt_iff_lt, not_true_eq_false, not_false_eq_true, Bool.not_true, Bool.not_false, decide_eq_true_eq, Nat.reduceSub, Nat.reduceAdd, List.append_assoc, tChain, tDIn, tDNotIn, sDDel, tAug, ipI]
      refine forL (K := K) (a := tl) (xs := us) (TdInv a tl dl ls ps H) rfl (sq_l (k _ _ not0 htl)) ⟨_, _, rfl, hd, k⟩ ?_ ?_ ?_
      · rintro i σ H2 _ ⟨c, d, rfl, _, k2⟩
        exact sq_l (k2 _ _ not0 htl)
      · rintro i x σ H2 hx ⟨c, d, rfl, hd2, k2⟩
        obtain ⟨t, p, rfl, ep, et⟩ := hps.2 i x hx
        obtain ⟨b', sb, ok⟩ := hse.split i p ep
        have eb : bOf (ps.take i) = b' := sb.bOf.symm
        have et2 := k2 _ _ not0 et
        simp only [tSeq, tIfS, tTest, tOp, tUn, tCB, tCons, tNil, tVar, tC, rI0, rI, rU, rEq, rNe, tRet, tRetN, tAsg, gName, gSub, tBM, tBM0, tNext, tB, tNot, tAnd, tOr, tIf, tCall, tDrop, tBreak, tCont, L2.start, tDGet, sDPut, tTup, tLst, tDNewK, tRevL, rCat, rAppend, rPop, rSetL, tAndV, tOrV, tNotV, tSl, tPart, tNoPart, tM1, gTup, gCons, gNil, cxK, cxnK, List.map_cons, List.map_nil, List.length_cons, List.length_nil, List.replicate, List.cons_append, List.nil_append, List.append_nil, List.set_cons_zero, List.set_cons_succ, List.getElem?_cons_zero, List.getElem?_cons_succ, Option.some.injEq, V.ref.injEq, V.int.injEq, V.str.injEq, V.bl.injEq, V.ty.injEq, exists_eq_left', exists_eq_left, exists_and_left, List.cons.injEq, and_true, true_and, sc_ii, sc_ss, sc_bb, sc_ni, sc_in, sc_is, sc_si, sc_nn, decide_true, decide_false, reduceCtorEq, Bool.false_eq_true, if_true, if_false, ite_true, ite_false, exists_const, eq_self, false_and, and_false, or_false, false_or, exists_false, Evl.rLenS, rSum, wipe, tYes, exists_eq, exists_eq', rIxL, rIxT, rIxS, exists_and_right, gt_iff_lt, not_true_eq_false, not_false_eq_true, Bool.not_true, Bool.not_false, decide_eq_true_eq, Nat.reduceSub, Nat.reduceAdd, List.append_assoc, tChain, tDIn, tDNotIn, sDDel, tAug, ipI]
        rw [eb]
        refine ⟨a, dl, t, b', p.1, p.2, xs, ls, rfl, k2 _ _ not0 ha, hst.kp k2, hl, hd2, et2, ok, fun H3 k3 => ?_⟩
        simp only [tSeq, tIfS, tTest, tOp, tUn, tCB, tCons, tNil, tVar, tC, rI0, rI, rU, rEq, rNe, tRet, tRetN, tAsg, gName, gSub, tBM, tBM0, tNext, tB, tNot, tAnd, tOr, tIf, tCall, tDrop, tBreak, tCont, L2.start, tDGet, sDPut, tTup, tLst, tDNewK, tRevL, rCat, rAppend, rPop, rSetL, tAndV, tOrV, tNotV, tSl, tPart, tNoPart, tM1, gTup, gCons, gNil, cxK, cxnK, List.map_cons, List.map_nil, List.length_cons, List.length_nil, List.replicate, List.cons_append, List.nil_append, List.append_nil, List.set_cons_zero, List.set_cons_succ, List.getElem?_cons_zero, List.getElem?_cons_succ, Option.some.injEq, V.ref.injEq, V.int.injEq, V.str.injEq, V.bl.injEq, V.ty.injEq, exists_eq_left', exists_eq_left, exists_and_left, List.cons.injEq, and_true, true_and, sc_ii, sc_ss, sc_bb, sc_ni, sc_in, sc_is, sc_si, sc_nn, decide_true, decide_false, reduceCtorEq, Bool.false_eq_true, if_true, if_false, ite_true, ite_false, exists_const, eq_self, false_and, and_false, or_false, false_or, exists_false, Evl.rLenS, rSum, wipe, tYes, exists_eq, exists_eq', rIxL, rIxT, rIxS, exists_and_right, gt_iff_lt, not_true_eq_false, not_false_eq_true, Bool.not_true, Bool.not_false, decide_eq_true_eq, Nat.reduceSub, Nat.reduceAdd, List.append_assoc, tChain, tDIn, tDNotIn, sDDel, tAug, ipI]
        refine ⟨_, sq_t (k3 _ _ not0 et2), _, atI_of (by decide) rfl, _, rfl, ?_⟩
        have z := (Secs.snoc sb ok).bOf
        have z2 : bOf (ps.take (i + 1)) = p.2 + 1 := by rw [take_snoc ep]; exact z.symm
        exact ⟨c, some (.ref t), by rw [z2]; rfl, k3 _ _ not0 hd2, k2.trans k3⟩
      · rintro σ H2 ⟨c, d, rfl, hd2, k2⟩
        rw [hps.1, List.take_length, ← hse.bOf]
        simp only [tSeq, tIfS, tTest, tOp, tUn, tCB, tCons, tNil, tVar, tC, rI0, rI, rU, rEq, rNe, tRet, tRetN, tAsg, gName, gSub, tBM, tBM0, tNext, tB, tNot, tAnd, tOr, tIf, tCall, tDrop, tBreak, tCont, L2.start, tDGet, sDPut, tTup, tLst, tDNewK, tRevL, rCat, rAppend, rPop, rSetL, tAndV, tOrV, tNotV, tSl, tPart, tNoPart, tM1, gTup, gCons, gNil, cxK, cxnK, List.map_cons, List.map_nil, List.length_cons, List.length_nil, List.replicate, List.cons_append, List.nil_append, List.append_nil, List.set_cons_zero, List.set_cons_succ, List.getElem?_cons_zero, List.getElem?_cons_succ, Option.some.injEq, V.ref.injEq, V.int.injEq, V.str.injEq, V.bl.injEq, V.ty.injEq, exists_eq_left', exists_eq_left, exists_and_left, List.cons.injEq, and_true, true_and, sc_ii, sc_ss, sc_bb, sc_ni, sc_in, sc_is, sc_si, sc_nn, decide_true, decide_false, reduceCtorEq, Bool.false_eq_true, if_true, if_false, ite_true, ite_false, exists_const, eq_self, false_and, and_false, or_false, false_or, exists_false, Evl.rLenS, rSum, wipe, tYes, exists_eq, exists_eq', rIxL, rIxT, rIxS, exists_and_right, gt_iff_lt, not_true_eq_false, not_false_eq_true, Bool.not_true, Bool.not_false, decide_eq_true_eq, Nat.reduceSub, Nat.reduceAdd, List.append_assoc, tChain, tDIn, tDNotIn, sDDel, tAug, ipI]
        refine ⟨.int (b : Nat), rfl, .ref a, rfl, a, xs, rfl, .inl (sq_l (k2 _ _ not0 ha)), (b : Int), (xs.length : Int), rfl, ⟨by omega, by omega, by omega, by omega⟩, for_range (lo := (b : Int)) (n := ((xs.length : Int) - (b : Int)).toNat) (PrInv [some (.ref a), some (.ref tl), some (.ref dl), c, some (.int (b : Nat)), d] H) ⟨_, rfl, k2⟩ ?_ ?_⟩
        · rintro i σ H3 hi ⟨c', rfl, k3⟩
          have hbi : b + i < ls.length := by omega
          obtain ⟨b3, x3, p3, l3, ev3, hb3, el3, cs3⟩ := word_at (K := K) hst k3 hbi
          have en := htail (b + i) (by omega) hbi
          rw [en] at el3; cases el3
          have c3 : x3 ≠ "lock" ∧ x3 ≠ "free" := by
            rcases cs3 with ⟨_, z⟩ | ⟨n, z, _⟩ | ⟨n, z, _⟩
            · exact z
            · cases z
            · cases z
          have ee : (b : Int) + (i : Int) = ((b + i : Nat) : Int) := by omega
          simp only [tSeq, tIfS, tTest, tOp, tUn, tCB, tCons, tNil, tVar, tC, rI0, rI, rU, rEq, rNe, tRet, tRetN, tAsg, gName, gSub, tBM, tBM0, tNext, tB, tNot, tAnd, tOr, tIf, tCall, tDrop, tBreak, tCont, L2.start, tDGet, sDPut, tTup, tLst, tDNewK, tRevL, rCat, rAppend, rPop, rSetL, tAndV, tOrV, tNotV, tSl, tPart, tNoPart, tM1, gTup, gCons, gNil, cxK, cxnK, List.map_cons, List.map_nil, List.length_cons, List.length_nil, List.replicate, List.cons_append, List.nil_append, List.append_nil, List.set_cons_zero, List.set_cons_succ, List.getElem?_cons_zero, List.getElem?_cons_succ, Option.some.injEq, V.ref.injEq, V.int.injEq, V.str.injEq, V.bl.injEq, V.ty.injEq, exists_eq_left', exists_eq_left, exists_and_left, List.cons.injEq, and_true, true_and, sc_ii, sc_ss, sc_bb, sc_ni, sc_in, sc_is, sc_si, sc_nn, decide_true, decide_false, reduceCtorEq, Bool.false_eq_true, if_true, if_false, ite_true, ite_false, exists_const, eq_self, false_and, and_false, or_false, false_or, exists_false, Evl.rLenS, rSum, wipe, tYes, exists_eq, exists_eq', rIxL, rIxT, rIxS, exists_and_right, gt_iff_lt, not_true_eq_false, not_false_eq_true, Bool.not_true, Bool.not_false, decide_eq_true_eq, Nat.reduceSub, Nat.reduceAdd, List.append_assoc, tChain, tDIn, tDNotIn, sDDel, tAug, ipI]
          refine ⟨xs, sq_l (k3 _ _ not0 ha), _, by rw [ee]; exact ev3, b3, rfl, _, sq_t hb3, _, atI_of (by decide) rfl, small (by decide), fun p np => ?_⟩
          refine ⟨p, _, rfl, .inr (sq_t upd_same), rfl, rfl, ?_⟩
          have inL : inV (.str x3) [.str "lock", .str "free"] = (("lock" == x3) || (("free" == x3) || false)) := rfl
          rw [inL, beq_eq_false_iff_ne.mpr (Ne.symm c3.1), beq_eq_false_iff_ne.mpr (Ne.symm c3.2)]
          simp only [tSeq, tIfS, tTest, tOp, tUn, tCB, tCons, tNil, tVar, tC, rI0, rI, rU, rEq, rNe, tRet, tRetN, tAsg, gName, gSub, tBM, tBM0, tNext, tB, tNot, tAnd, tOr, tIf, tCall, tDrop, tBreak, tCont, L2.start, tDGet, sDPut, tTup, tLst, tDNewK, tRevL, rCat, rAppend, rPop, rSetL, tAndV, tOrV, tNotV, tSl, tPart, tNoPart, tM1, gTup, gCons, gNil, cxK, cxnK, List.map_cons, List.map_nil, List.length_cons, List.length_nil, List.replicate, List.cons_append, List.nil_append, List.append_nil, List.set_cons_zero, List.set_cons_succ, List.getElem?_cons_zero, List.getElem?_cons_succ, Option.some.injEq, V.ref.injEq, V.int.injEq, V.str.injEq, V.bl.injEq, V.ty.injEq, exists_eq_left', exists_eq_left, exists_and_left, List.cons.injEq, and_true, true_and, sc_ii, sc_ss, sc_bb, sc_ni, sc_in, sc_is, sc_si, sc_nn, decide_true, decide_false, reduceCtorEq, Bool.false_eq_true, if_true, if_false, ite_true, ite_false, exists_const, eq_self, false_and, and_false, or_false, false_or, exists_false, Evl.rLenS, rSum, wipe, tYes, exists_eq, exists_eq', rIxL, rIxT, rIxS, exists_and_right, gt_iff_lt, not_true_eq_false, not_false_eq_true, Bool.not_true, Bool.not_false, decide_eq_true_eq, Nat.reduceSub, Nat.reduceAdd, List.append_assoc, tChain, tDIn, tDNotIn, sDDel, tAug, ipI, Bool.or_false]
          exact ⟨_, rfl, k3.trans (Kp.new np)⟩
        · rintro σ H3 ⟨c', rfl, k3⟩
          simp only [tSeq, tIfS, tTest, tOp, tUn, tCB, tCons, tNil, tVar, tC, rI0, rI, rU, rEq, rNe, tRet, tRetN, tAsg, gName, gSub, tBM, tBM0, tNext, tB, tNot, tAnd, tOr, tIf, tCall, tDrop, tBreak, tCont, L2.start, tDGet, sDPut, tTup, tLst, tDNewK, tRevL, rCat, rAppend, rPop, rSetL, tAndV, tOrV, tNotV, tSl, tPart, tNoPart, tM1, gTup, gCons, gNil, cxK, cxnK, List.map_cons, List.map_nil, List.length_cons, List.length_nil, List.replicate, List.cons_append, List.nil_append, List.append_nil, List.set_cons_zero, List.set_cons_succ, List.getElem?_cons_zero, List.getElem?_cons_succ, Option.some.injEq, V.ref.injEq, V.int.injEq, V.str.injEq, V.bl.injEq, V.ty.injEq, exists_eq_left', exists_eq_left, exists_and_left, List.cons.injEq, and_true, true_and, sc_ii, sc_ss, sc_bb, sc_ni, sc_in, sc_is, sc_si, sc_nn, decide_true, decide_false, reduceCtorEq, Bool.false_eq_true, if_true, if_false, ite_true, ite_false, exists_const, eq_self, false_and, and_false, or_false, false_or, exists_false, Evl.rLenS, rSum, wipe, tYes, exists_eq, exists_eq', rIxL, rIxT, rIxS, exists_and_right, gt_iff_lt, not_true_eq_false, not_false_eq_true, Bool.not_true, Bool.not_false, decide_eq_true_eq, Nat.reduceSub, Nat.reduceAdd, List.append_assoc, tChain, tDIn, tDNotIn, sDDel, tAug, ipI]
          exact q H3 k3
end
end My

set_option Elab.async false
set_option linter.all false
set_option maxRecDepth 100000
set_option maxHeartbeats 4000000
/-! ### a law's def that asks repr of a list: where nothing is being shown -/
namespace My
open PySem PySem.Spec PyProof.Rows L2
/-- a promise that is kept where nothing is being shown -/
structure FnG (P : Program) (w : World) (K : PySem.W.Frag) (mg : Str → Option Value) (base : Heap) (CX : CXT) (k : Nat) (f : Addr) (fd : FuncData) (ps : List Str) (sp : Sp) : Prop where
  go : ∀ (A : Around) (outer : List Env) (s : Shared) (H : Hp) (args : Args) (us : List Value) (vs : List V) (Q : VK) (E : XK), A.guards = some [] → Room k A → Env0 P w K mg base A outer s H → BindsTo s fd args (ps.zip us) → Vals vs us → sp vs H Q E →
    codeAny (model P w) A (.call (.ref f) args) (CR CX outer P w H s Q E) s
section
variable {P : Program} {w : World} {K : PySem.W.Frag} {mg mb : Str → Option Value} {base : Heap} {k : Nat} {f a : Addr} {fd : FuncData} {x : Str} {sp : Sp} {s : Shared} {us : List Value} {ns : List Int}
theorem FnG.ok {qual : Str} {st : Stmt} {N ps : List Str} (F : Fun K x qual st f fd) (S : FnScope N ps (defScope st)) (len : ∀ vs H Q E, sp vs H Q E → vs.length = ps.length)
    (hbody : ∀ (cdv : Value) (A : Around) (outer : List Env) (s : Shared) (H : Hp) (vs : List V) (Q : VK) (E : XK), (A.deeper (envOfC qual (defScope st) s.heap.objs.size f cdv)).guards = some [] → Room k (A.deeper (envOfC qual (defScope st) s.heap.objs.size f cdv)) → sp vs H Q E →
      ∃ t, PSs (cxOf (L2.CX P w) P w K mg base N qual (defScope st) f cdv A outer s H E) (defBody st) t ∧ t { nx := fun _ H' => Q .non H', rt := Q } (start N vs) H) : FnG P w K mg base (L2.CX P w) (k + 1) f fd ps sp := by
  obtain ⟨oc, od, kV, doc, pm, an, cdv, ct, osl, rfl, lk, hcd⟩ := F.ex
  refine ⟨fun A outer s H args us vs Q E gd hr e0 hb r hsp => ?_⟩
  have count := len _ _ _ _ hsp
  have inK : K.In s.heap := e0.mod.kin.keeps fun b o e => (e0.bs b o e).1
  have kinds : ∀ y ∈ ps.zip us, (defScope st).names.lookup y.1 = some .local ∨ ((defScope st).names.lookup y.1 = some .cell ∧ ((cellsFrom (s.heap.objs.size + 1) (defScope st).names []).lookup y.1).isSome = true) := fun ⟨m, v⟩ hy =>
    (S.par m (List.of_mem_zip hy).1).imp id fun q => ⟨q, PySem.W.cellsFrom_some _ _ _ (.inl q)⟩
  refine codeAny_call_function hr.depth (inK _ _ lk) rfl S.co S.gen rfl (PySem.W.codeRec_of inK hcd) (hb _ _ _ _ (wpAny_newFunctionEnv_cells S.kind kinds fun env he s1 z => ?_))
  subst he
  refine ⟨(e0.mod.nolimit.keeps fun b o e => (e0.bs b o e).1).keeps z.toInCall.keep, codeAny_func ?_⟩
  obtain ⟨t, ht, todo⟩ := hbody cdv A outer s H vs Q E gd (hr.deeper _) hsp
  refine wpAny_mono (ht.run [] s1 (start N vs) H _ (inv_start S hr.hd e0 count r z) todo) (fun
    | .ret u, s2, ⟨v, σ', H', J, rv, q⟩ => ⟨v, H', J.os, J.bare, J.base, J.hok, rv, q⟩
    | .next, s2, ⟨σ', H', J, q⟩ => (⟨V.non, H', J.os, J.bare, J.base, J.hok, rfl, q⟩ : CE outer P w H s Q Value.none s2)
    | .brk, s2, ⟨_, _, _, q⟩ => q.elim
    | .cont, s2, ⟨_, _, _, q⟩ => q.elim) fun _ _ z => z
/-- a heap of which the script alone may be tracked -/
theorem script_heap (KX : K.In s.heap) (ha : s.heap.get? a = some { cls := .type "list", data := .seq us.toArray }) (hi : IntsAre us ns) (hl : ns.length ≤ sizeLine) :
    ∃ H : Hp, Only H ∧ SqL K H a (ns.map V.int) ∧ HOk P w H s.heap ∧ (∀ b, H b ≠ none → b = a) ∧ (H a ≠ none → K.lookup a = none) := by
  have rv := vals_ints hi
  cases hk : K.lookup a with
  | some o =>
    cases ha.symm.trans (KX a o hk)
    exact ⟨fun _ => none, fun _ => .inl rfl, .inr ⟨_, us.toArray, _, hk, rfl, rfl, rfl, by rw [List.size_toArray, hi.length]; exact hl, by simpa using rv⟩, fun b u z => (nomatch (show (none : Option HO) = some u from z)), fun b z => absurd rfl z, fun z => absurd rfl z⟩
  | none =>
    refine ⟨fun b => if b = a then some (.frz { cls := .type "list", data := .seq us.toArray } (.lst (ns.map V.int))) else none, fun b => ?_, .inl (.inr ⟨_, if_pos rfl⟩), fun b u z => ?_, fun b z => Classical.byContradiction fun n => z (if_neg n), fun _ => rfl⟩
    · rcases Classical.em (b = a) with e | e
      · exact .inr ⟨_, _, if_pos e⟩
      · exact .inl (if_neg e)
    · rcases Classical.em (b = a) with e | e
      · subst e
        cases (if_pos rfl).symm.trans z
        exact ⟨ha, by rw [List.length_map]; exact hl, us, _, rv, ha⟩
      · exact absurd ((if_neg e).symm.trans z) (fun q => nomatch q)
theorem call_lawG (KX : K.In s.heap) (hns : s.heap.Ns mainGlobals mg) (hb : s.heap.Ns builtinsNs mb) (hbb : ∀ x : Str, x ≠ "__name__" → mb x = bootBuiltins x) (hlim : s.heap.NoLimit) (hg : s.gens = #[])
    (ha : s.heap.get? a = some { cls := .type "list", data := .seq us.toArray }) (hi : IntsAre us ns) (hl : ns.length ≤ sizeLine) (hr : Room k callerA) (F : ∀ base : Heap, K.In base → base.Ns mainGlobals mg → FnG P w K mg base (L2.CX P w) k f fd [x] sp)
    (hbind : ∀ (s : Shared) (u : Value), BindsTo s fd ⟨[u], []⟩ [(x, u)]) (hsp : ∀ H : Hp, SqL K H a (ns.map V.int) → sp [.ref a] H (fun v _ => v = .bl true) fun _ _ _ => False) :
    codeAny (model P w) callerA (.call (.ref f) ⟨[.ref a], []⟩) (fun r s' => r = .ok (.ret (.bool true)) ∧ OldK s.heap s'.heap ∧ s'.os = s.os ∧ AllBare s'.gens) s := by
  obtain ⟨H, only, hS, hok, hA, hK⟩ := script_heap (P := P) (w := w) KX ha hi hl
  have old : ∀ {b : Addr} {o : Obj}, s.heap.get? b = some o → H b = none → (hidT s.heap H).get? b = some o := fun e n => hidT_get e n
  have dicts : ∀ {b : Addr} {o : Obj} {es : Array DictEntry} {ep : Nat}, s.heap.get? b = some o → o.data = .dict es ep → H b = none := fun {b o es ep} e d => Classical.byContradiction fun n => by
    rw [hA b n, ha] at e
    cases e
    cases (show Data.seq us.toArray _ = Data.dict es ep from d)
  have names : ∀ {b : Addr} {m : Str → Option Value}, s.heap.Ns b m → (hidT s.heap H).Ns b m := fun ⟨o, es, ep, e, d, r⟩ => ⟨o, es, ep, old e (dicts e d), d, r⟩
  have inB : K.In (hidT s.heap H) := fun b o e => old (KX b o e) (Classical.byContradiction fun n => by
    have eb := hA b n
    subst eb
    rw [hK n] at e
    cases e)
  have mods : Mod K mg (hidT s.heap H) := ⟨inB, names hns, ⟨mb, names hb, hbb⟩, let ⟨mc, h1, h2⟩ := hlim; ⟨mc, names h1, h2⟩⟩
  have env : Env0 P w K mg (hidT s.heap H) callerA [] s H := ⟨rfl, mods, fun b o e => of_hidT e, Nat.le_of_eq (hidT_size _ _), trivial, fun b hb => (nomatch hb), hok, .of_eq hg⟩
  refine codeAny_mono ((F _ inB (names hns)).go callerA [] s H ⟨[.ref a], []⟩ [.ref a] [.ref a] _ _ rfl hr env (hbind s (.ref a)) (.cons rfl .nil) (hsp H hS)) fun
    | .error e, s', h => False.elim (let ⟨_, _, _, _, _, _, _, _, _, _, _, _, z⟩ := h; z)
    | .ok .next, _, h => False.elim h
    | .ok .brk, _, h => False.elim h
    | .ok .cont, _, h => False.elim h
    | .ok (.ret u), s', ⟨v, H', os, bare, un, hok', r', q⟩ => ?_
  cases (show v = .bl true from q)
  cases (show u = Value.bool true from r')
  refine ⟨rfl, OldK.of_keep fun b o e => ?_, os, bare⟩
  rcases only b with n | ⟨ob, xs, z⟩
  · exact un.keep b o e n (fun z => nomatch z) (by simp)
  · obtain ⟨e1, _⟩ := hok b _ z
    obtain ⟨e2, _⟩ := hok' b _ (un.frzs b ob _ z)
    cases e.symm.trans e1
    exact e2
end
theorem walk_ofG {l : PySem.W.OpenLaw} {n k : Nat} {q : Program} {loose : List Str} {XP : (Str → Option Value) → Heap → Prop} {YP : World → Heap → Prop} {d : DefRec} {K : Params → PySem.W.Frag} {sp : World → Sp} {x : Str}
    (hn : l.most = some n) (hn2 : n ≤ sizeLine) (hdf : d.params.defaults = []) (hr : Room k callerA) (hY : ∀ (w : World) (h : Heap), YP w h → (K w.params).In h)
    (F : ∀ (w : World) (mg : Str → Option Value) (fa : Addr) (h : Heap), (K w.params).In h → h.Ns mainGlobals mg → mg d.name = some (.ref fa) → ∃ fd : FuncData, (∀ (s : Shared) (u : Value), BindsTo s fd ⟨[u], []⟩ [(x, u)]) ∧ ∀ base : Heap, (K w.params).In base → base.Ns mainGlobals mg → FnG l.prog w (K w.params) mg base (L2.CX l.prog w) k fa fd [x] (sp w))
    (hsp : ∀ (w : World) (H : Hp) (a : Addr) (ns : List Int), ns.length ≤ n → SqL (K w.params) H a (ns.map V.int) → sp w [.ref a] H (fun v _ => v = .bl true) fun _ _ _ => False) : PySem.W.WalkO q loose XP YP l.row.toRowW d [] (fun f vs => PySem.call f vs) := by
  refine Att.attach_call hn hdf fun w s₀ s₁ mg mb fa o pm cd doc a vs ns G Y _ _ _ hmg hobj hints hlen hg => ?_
  have KX := hY w _ Y
  obtain ⟨fd, hb, hF⟩ := F w mg fa _ KX G.T.g hmg
  exact call_lawG KX G.T.g G.T.b G.T.builtins G.T.nolimit hg hobj hints (Nat.le_trans hlen hn2) hr hF hb fun H hS => hsp w H a ns hlen hS
end My

set_option Elab.async false
set_option linter.all false
set_option maxRecDepth 100000
set_option maxHeartbeats 4000000
namespace My
open PySem L2 NdefX
abbrev s_law : Stmt := top 39
theorem sc_law : FnScope ["_law_script", "_law_row_here", "_law_names_here", "_law_locks", "_law_name", "_law_size_here", "_law_mode", "_law_steps", "_law_wrong_here", "_law_made", "e", "_law_told"] ["_law_script"] (defScope s_law) := ⟨rfl, rfl, rfl, by decide +kernel, rfl, by decide +kernel, by decide +kernel⟩
theorem StepsIn.steps {H : Hp} {lks : List Str} : ∀ {xs : List V}, StepsIn H lks xs → ∃ ls, Steps H xs ls ∧ NamesIn ls lks
  | [], _ => ⟨[], ⟨rfl, fun i x e => nomatch e⟩, fun i b n e => nomatch e⟩
  | x :: r, h => by
    obtain ⟨l, sv, m⟩ := h x List.mem_cons_self
    obtain ⟨ls, ⟨h1, h2⟩, h3⟩ := StepsIn.steps (xs := r) fun y hy => h y (List.mem_cons_of_mem _ hy)
    refine ⟨l :: ls, ⟨by rw [List.length_cons, List.length_cons, h1], fun i y e => ?_⟩, fun i b n e => ?_⟩
    · cases i with
      | zero => cases e; exact ⟨l, rfl, sv⟩
      | succ i => exact h2 i y e
    · cases i with
      | zero => exact m b n (Option.some.inj e)
      | succ i => exact h3 i b n e
theorem cut_map {zs : List Str} {lo hi : Option Int} : cutV (zs.map V.str) lo hi = ((zs.drop (HT.sIx zs.length 0 lo)).take (HT.sIx zs.length zs.length hi - HT.sIx zs.length 0 lo)).map V.str := by
  unfold cutV
  rw [List.length_map, List.map_take, List.map_drop]
def rLstOf (K : PySem.W.Frag) : List V → Hp → VK → Prop := fun xs H Q => ∃ p ys, xs = [V.ref p] ∧ (SqL K H p ys ∨ SqT K H p ys) ∧ ∀ (l : Addr), H l = none → Q (V.ref l) (upd H l (HO.lst ys))
def spLaw (K : PySem.W.Frag) : Sp := fun vs H Q _ => ∃ (a : Addr) (ns : List Int), vs = [.ref a] ∧ SqL K H a (ns.map V.int) ∧ ns.length ≤ 63 ∧ ∀ H', Q (.bl true) H'
theorem two_shown {z : Str} {i : Int} (h : Nm z) (hi : i.natAbs.log2 < 1920) : (PyData.list [.str z, .int i]).shown.length ≤ sizeLine := by
  have e : (PyData.list [.str z, .int i]).shown = ((((Str.ofString "[" ++ Str.ofString "") ++ reprText z) ++ Str.ofString ", ") ++ Str.ofString (toString i)) ++ Str.ofString "]" := rfl
  rw [e]
  have h1 := StrLaws.reprText_len z (fun c hc => by have := (h.1 c hc).2; omega)
  have h2 := PyProof.Rows.int_text_len_1921 hi
  have h3 : (Str.ofString "[").length = 1 := by decide +kernel
  have h7 : (Str.ofString "").length = 0 := by decide +kernel
  have h4 : (Str.ofString ", ").length = 2 := by decide +kernel
  have h5 : (Str.ofString "]").length = 1 := by decide +kernel
  have h6 := h.2.2
  simp only [len_app, h3, h4, h5, h7]
  exact small (by omega)
theorem two_dp {K : PySem.W.Frag} {H : Hp} {a : Addr} {z : Str} {i : Int} (e : H a = some (.lst [.str z, .int i])) : Dp K H (.ref a) (.list [.str z, .int i]) := .lst (sq_l e) (.cons (.str z) (.cons (.int i) .nil))
mutual
theorem Dq.kpT {H H' : Hp} {S : List Addr} (k : Kp S H H') (hS : ∀ a ∈ S, ∀ xs, H a ≠ some (.tup xs)) : ∀ {d : PyData} {v : V}, Dq H v d → noL d = true → Dq H' v d
  | _, _, .non, _ => .non
  | _, _, .bl b, _ => .bl b
  | _, _, .int i, _ => .int i
  | _, _, .str x, _ => .str x
  | _, _, .lst e h, z => by cases z
  | _, _, .tup e h, z => .tup (k _ _ (fun m => hS _ m _ e) e) (DqAll.kpT k hS h z)
theorem DqAll.kpT {H H' : Hp} {S : List Addr} (k : Kp S H H') (hS : ∀ a ∈ S, ∀ xs, H a ≠ some (.tup xs)) : ∀ {ds : List PyData} {vs : List V}, DqAll H vs ds → noLAll ds = true → DqAll H' vs ds
  | _, _, .nil, _ => .nil
  | _, _, .cons h t, z => by
    have z' := Bool.and_eq_true_iff.mp z
    exact .cons (Dq.kpT k hS h z'.1) (DqAll.kpT k hS t z'.2)
end
theorem StepV.kpT {H H' : Hp} {S : List Addr} {v : V} {l : Lk} (h : StepV H v l) (k : Kp S H H') (hS : ∀ a ∈ S, ∀ xs, H a ≠ some (.tup xs)) : StepV H' v l := by
  obtain ⟨a, x, ps, ds, rs, h1, h2, h3, h4, r⟩ := h.ex
  exact ⟨a, x, ps, ds, rs, h1, k _ _ (fun m => hS _ m _ h2) h2, h3.kpT k hS h4.2.1, h4, r⟩
theorem Steps.kpT {H H' : Hp} {S : List Addr} {xs : List V} {ls : List Lk} (h : Steps H xs ls) (k : Kp S H H') (hS : ∀ a ∈ S, ∀ xs, H a ≠ some (.tup xs)) : Steps H' xs ls := ⟨h.1, fun i x e => by
  obtain ⟨l, e1, s⟩ := h.2 i x e
  exact ⟨l, e1, s.kpT k hS⟩⟩
def TailPre (σ : L2.St) (H : Hp) : Prop := ∃ (c0 c1 c4 c5 c6 : Option V) (nl lk st : Addr) (z0 : Str) (zr : List V) (lks : List Str) (xs : List V), σ = [c0, c1, some (.ref nl), some (.ref lk), c4, c5, c6, some (.ref st), none, none, none, none] ∧ H nl = some (.lst (.str z0 :: zr)) ∧ Nm z0 ∧ H lk = some (.lst (lks.map V.str)) ∧ (∀ y ∈ lks, Nm y) ∧
  H st = some (.lst xs) ∧ StepsIn H lks xs ∧ 1 ≤ xs.length ∧ xs.length ≤ 80
structure Bt5 (K : PySem.W.Frag) (mg : Str → Option Value) (OP BS fOp fS : Addr) : Prop extends Bt4 mg where
  b_repr : mg "repr" = none
  k_Operation : mg "Operation" = some (.ref OP)
  cl_Operation : Cls K OP
  k_BadStep : mg "BadStep" = some (.ref BS)
  M_Operation : Mk K OP fOp
  ME_Operation_sections : Meth K OP "sections" fS
  XF_BadStep : XfC K BS
  NO_name : PySem.W.findIn K (.ref BS) "name" = some none
  EX_BadStep : PySem.W.exmOne K (.ref BS) (.ref BS) = some true
  NO_at : PySem.W.findIn K (.ref BS) "at" = some none
section
variable {P : Program} {w : World} {K : PySem.W.Frag} {mg : Str → Option Value} {base : Heap}
theorem ok_law {f : Addr} {fd : FuncData} (D : Df K mg "law" s_law ["_law_script"] f fd) {OP BS fOp fS : Addr} {fdOp fdS : FuncData} (T : Bt5 K mg OP BS fOp fS) {fr : Addr} {fdr : FuncData} (D_law_row : Df K mg "_law_row" s_law_row ["_law_script"] fr fdr) (G_law_row : FnOk P w K mg base CX0 1 fr fdr ["_law_script"] (spRow K))
    {f1 : Addr} {fd1 : FuncData} (D_law_draw : Df K mg "_law_draw" s_law_draw ["_law_row_here", "_law_many_here"] f1 fd1) (G_law_draw : FnOk P w K mg base CX0 1 f1 fd1 ["_law_row_here", "_law_many_here"] spDraw) {f2 : Addr} {fd2 : FuncData} (D_law_names : Df K mg "_law_names" s_law_names ["_law_row_here", "_law_many_here"] f2 fd2) (G_law_names : FnOk P w K mg base CX0 3 f2 fd2 ["_law_row_here", "_law_many_here"] spNames)
    {f3 : Addr} {fd3 : FuncData} (D_law_size : Df K mg "_law_size" s_law_size ["_law_row_here"] f3 fd3) (G_law_size : FnOk P w K mg base CX0 2 f3 fd3 ["_law_row_here"] spSize) {f4 : Addr} {fd4 : FuncData} (D_law_any : Df K mg "_law_any" s_law_any ["_law_row_here", "_law_name", "_law_locks", "_law_size_here"] f4 fd4) (G_law_any : FnOk P w K mg base CX0 3 f4 fd4 ["_law_row_here", "_law_name", "_law_locks", "_law_size_here"] spMake)
    {f5 : Addr} {fd5 : FuncData} (D_law_balanced : Df K mg "_law_balanced" s_law_balanced ["_law_row_here", "_law_name", "_law_locks", "_law_size_here"] f5 fd5) (G_law_balanced : FnOk P w K mg base CX0 3 f5 fd5 ["_law_row_here", "_law_name", "_law_locks", "_law_size_here"] spMake) {f6 : Addr} {fd6 : FuncData} (D_law_changed : Df K mg "_law_changed" s_law_changed ["_law_row_here", "_law_steps", "_law_locks"] f6 fd6) (G_law_changed : FnOk P w K mg base CX0 2 f6 fd6 ["_law_row_here", "_law_steps", "_law_locks"] spChanged)
    {f7 : Addr} {fd7 : FuncData} (D_law_wrong : Df K mg "_law_wrong" s_law_wrong ["_law_steps", "_law_locks"] f7 fd7) (G_law_wrong : FnOk P w K mg base CX0 2 f7 fd7 ["_law_steps", "_law_locks"] spWrong) {f8 : Addr} {fd8 : FuncData} (D_law_right : Df K mg "_law_right" s_law_right ["_law_steps", "_law_told"] f8 fd8) (G_law_right : FnOk P w K mg base CX0 3 f8 fd8 ["_law_steps", "_law_told"] spRight)
    {ds : List Value} (hdOp : Vals [.int 1, .int 0] ds) (hbOp : Binds K fdOp ["self", "name", "steps", "turns", "otherwise"] ds) (G_Operation_init : FnOk P w K mg base (L2.CX P w) 7 fOp fdOp ["self", "name", "steps", "turns", "otherwise"] (spOp K OP BS)) (bM_Operation_sections : Binds K fdS ["self"] []) (G_Operation_sections : FnOk P w K mg base CX0 2 fS fdS ["self"] (spSecM K OP)) :
    FnG P w K mg base (L2.CX P w) 9 f fd ["_law_script"] (spLaw K) := by
  refine FnG.ok D.F sc_law (fun vs H Q E h => ?_) (fun cdv A outer s H vs Q E gd0 hr h => ?_)
  · obtain ⟨a, ns, rfl, _⟩ := h
    rfl
  · obtain ⟨a, ns, rfl, hS, hl, q⟩ := h
    have gd := And.intro gd0 hr.units
    have M_Operation := T.M_Operation
    have ME_Operation_sections := T.ME_Operation_sections
    have XF_BadStep := T.XF_BadStep
    have NO_name := T.NO_name
    have NO_at := T.NO_at
    obtain ⟨t, ht, hq⟩ : ∃ t, PSs (cxOf (L2.CX P w) P w K mg base ["_law_script", "_law_row_here", "_law_names_here", "_law_locks", "_law_name", "_law_size_here", "_law_mode", "_law_steps", "_law_wrong_here", "_law_made", "e", "_law_told"] "law" (defScope s_law) f cdv A outer s H E) ((defBody s_law).drop 8) t ∧ ∀ σ H9, TailPre σ H9 → t { nx := fun _ H' => Q .non H', rt := Q } σ H9 := by
      refine ⟨_, (pss_cons (ps_set (i := 8) sc_law.nd rfl (Or.inl rfl) (pe_call G_law_wrong (hr.mono (by decide)) rfl D_law_wrong.g D_law_wrong.F.kp D_law_wrong.b .nil pass0 (pa_cons (pv 7) (pa_cons (pv 3) pa_nil))))
      (pss_cons (ps_try_as (i := 10) rfl rfl sc_law.nd rfl rfl ⟨rfl, by decide, .inl T.k_BadStep⟩ takes0 (fun W pn xe tk _ => (pss_one (ps_set (i := 9) sc_law.nd rfl (Or.inl rfl) (pe_makeS M_Operation G_Operation_init (hr.mono (by decide)) rfl T.k_Operation hbOp hdOp (fun σ => passAt tk σ) (pa_cons (pe_ix (r := rIxL K) ix_list (pv 2) pe_int (fun _ _ => rfl)) (pa_cons (pe_callTy (T := "list") (r := rLstOf K) call_list_of (by rfl) T.b_list (by decide +kernel) (pa_cons (pv 7) pa_nil)) pa_nil)))))) (fun a oe cls d pn hz hf => (pss_one (ps_ret (pe_and (pe_cmpR op_ge (pv 8) pe_int (nomark _)) (pe_one (pe_cmpR op_eq (pe_callB (id := "repr") (r := rReprD K) (call_reprD gd) (by rfl) T.b_repr (by decide +kernel) (pa_cons (pe_lst (pa_cons (pe_xf XF_BadStep NO_name hz hf (pv 10)) (pa_cons (pe_xf XF_BadStep NO_at hz hf (pv 10)) pa_nil))) pa_nil)) (pe_callB (id := "repr") (r := rReprD K) (call_reprD gd) (by rfl) T.b_repr (by decide +kernel) (pa_cons (pe_lst (pa_cons (pe_ix (r := rIxL K) ix_list (pv 2) pe_int (fun _ _ => rfl)) (pa_cons (pv 8) pa_nil))) pa_nil)) (nomark _))))))))
      (pss_cons (ps_if (pt_cmpR op_ge (pv 8) pe_int (nomark _)) (pss_one (ps_ret pe_bl)) pss_nil)
      (pss_cons (ps_set (i := 11) sc_law.nd rfl (Or.inl rfl) (pe_meth0 (pv 9) T.cl_Operation ME_Operation_sections G_Operation_sections (hr.mono (by decide)) bM_Operation_sections .nil pass0))
      (pss_cons (ps_if (pt_not (pt_val (pe_call G_law_right (hr.mono (by decide)) rfl D_law_right.g D_law_right.F.kp D_law_right.b .nil pass0 (pa_cons (pv 7) (pa_cons (pv 11) pa_nil))))) (pss_one (ps_ret pe_bl)) pss_nil)
      (pss_cons (ps_expr (pe_bm0 PySem.F.plainAttrs_list PySem.F.slot_list_clear PySem.F.type_list_clear mt_clear (pv 11)))
      (pss_one (ps_ret (pe_call G_law_right (hr.mono (by decide)) rfl D_law_right.g D_law_right.F.kp D_law_right.b .nil pass0 (pa_cons (pv 7) (pa_cons (pe_meth0 (pv 9) T.cl_Operation ME_Operation_sections G_Operation_sections (hr.mono (by decide)) bM_Operation_sections .nil pass0) pa_nil))))))))))), ?_⟩
      rintro σ H9 ⟨c0, c1, c4, c5, c6, nl, lk, st, z0, zr, lks, xs, rfl, hnl, hz0, hlk, hly, hst, hx, x1, x2⟩
      obtain ⟨ls, hs, hnm⟩ := hx.steps
      simp only [tSeq, tIfS, tTest, tOp, tUn, tCB, tCons, tNil, tVar, tC, rI0, rI, rU, rEq, rNe, tRet, tRetN, tAsg, gName, gSub, tBM, tBM0, tNext, tB, tNot, tAnd, tOr, tIf, tCall, tDrop, tBreak, tCont, L2.start, tDGet, sDPut, tTup, tLst, tDNewK, tRevL, rCat, rAppend, rPop, rSetL, tAndV, tOrV, tNotV, tSl, tPart, tNoPart, tM1, gTup, gCons, gNil, cxK, cxnK, List.map_cons, List.map_nil, List.length_cons, List.length_nil, List.replicate, List.cons_append, List.nil_append, List.append_nil, List.set_cons_zero, List.set_cons_succ, List.getElem?_cons_zero, List.getElem?_cons_succ, Option.some.injEq, V.ref.injEq, V.int.injEq, V.str.injEq, V.bl.injEq, V.ty.injEq, exists_eq_left', exists_eq_left, exists_and_left, List.cons.injEq, and_true, true_and, sc_ii, sc_ss, sc_bb, sc_ni, sc_in, sc_is, sc_si, sc_nn, decide_true, decide_false, reduceCtorEq, Bool.false_eq_true, if_true, if_false, ite_true, ite_false, exists_const, eq_self, false_and, and_false, or_false, false_or, exists_false, Evl.rLenS, rSum, wipe, tYes, exists_eq, exists_eq', rIxL, rIxT, rIxS, exists_and_right, gt_iff_lt, not_true_eq_false, not_false_eq_true, Bool.not_true, Bool.not_false, decide_eq_true_eq, Nat.reduceSub, Nat.reduceAdd, List.append_assoc, tChain, tDIn, tDNotIn, sDDel, tAug, ipI]
      refine ⟨st, lk, xs, ls, lks, rfl, hst, hlk, hs, hnm, hly, by omega, fun r H10 hF k10 => ?_⟩
      simp only [tSeq, tIfS, tTest, tOp, tUn, tCB, tCons, tNil, tVar, tC, rI0, rI, rU, rEq, rNe, tRet, tRetN, tAsg, gName, gSub, tBM, tBM0, tNext, tB, tNot, tAnd, tOr, tIf, tCall, tDrop, tBreak, tCont, L2.start, tDGet, sDPut, tTup, tLst, tDNewK, tRevL, rCat, rAppend, rPop, rSetL, tAndV, tOrV, tNotV, tSl, tPart, tNoPart, tM1, gTup, gCons, gNil, cxK, cxnK, List.map_cons, List.map_nil, List.length_cons, List.length_nil, List.replicate, List.cons_append, List.nil_append, List.append_nil, List.set_cons_zero, List.set_cons_succ, List.getElem?_cons_zero, List.getElem?_cons_succ, Option.some.injEq, V.ref.injEq, V.int.injEq, V.str.injEq, V.bl.injEq, V.ty.injEq, exists_eq_left', exists_eq_left, exists_and_left, List.cons.injEq, and_true, true_and, sc_ii, sc_ss, sc_bb, sc_ni, sc_in, sc_is, sc_si, sc_nn, decide_true, decide_false, reduceCtorEq, Bool.false_eq_true, if_true, if_false, ite_true, ite_false, exists_const, eq_self, false_and, and_false, or_false, false_or, exists_false, Evl.rLenS, rSum, wipe, tYes, exists_eq, exists_eq', rIxL, rIxT, rIxS, exists_and_right, gt_iff_lt, not_true_eq_false, not_false_eq_true, Bool.not_true, Bool.not_false, decide_eq_true_eq, Nat.reduceSub, Nat.reduceAdd, List.append_assoc, tChain, tDIn, tDNotIn, sDDel, tAug, ipI]
      have k9 := k10
      have hnl10 := k10 _ _ not0 hnl
      have hst10 := k10 _ _ not0 hst
      have hs10 := hs.kp k10
      simp only [tSeq, tIfS, tTest, tOp, tUn, tCB, tCons, tNil, tVar, tC, rI0, rI, rU, rEq, rNe, tRet, tRetN, tAsg, gName, gSub, tBM, tBM0, tNext, tB, tNot, tAnd, tOr, tIf, tCall, tDrop, tBreak, tCont, L2.start, tDGet, sDPut, tTup, tLst, tDNewK, tRevL, rCat, rAppend, rPop, rSetL, tAndV, tOrV, tNotV, tSl, tPart, tNoPart, tM1, gTup, gCons, gNil, cxK, cxnK, List.map_cons, List.map_nil, List.length_cons, List.length_nil, List.replicate, List.cons_append, List.nil_append, List.append_nil, List.set_cons_zero, List.set_cons_succ, List.getElem?_cons_zero, List.getElem?_cons_succ, Option.some.injEq, V.ref.injEq, V.int.injEq, V.str.injEq, V.bl.injEq, V.ty.injEq, exists_eq_left', exists_eq_left, exists_and_left, List.cons.injEq, and_true, true_and, sc_ii, sc_ss, sc_bb, sc_ni, sc_in, sc_is, sc_si, sc_nn, decide_true, decide_false, reduceCtorEq, Bool.false_eq_true, if_true, if_false, ite_true, ite_false, exists_const, eq_self, false_and, and_false, or_false, false_or, exists_false, Evl.rLenS, rSum, wipe, tYes, exists_eq, exists_eq', rIxL, rIxT, rIxS, exists_and_right, gt_iff_lt, not_true_eq_false, not_false_eq_true, Bool.not_true, Bool.not_false, decide_eq_true_eq, Nat.reduceSub, Nat.reduceAdd, List.append_assoc, tChain, tDIn, tDNotIn, sDDel, tAug, ipI, tMakeS, rLstOf]
      refine ⟨_, sq_l hnl10, _, atI_of (by decide) rfl, xs, .inl (sq_l hst10), fun l nl' o dd no nd hdo => ?_⟩
      have ka : Kp [] H10 (upd H10 l (.lst xs)) := Kp.new nl'
      have kb0 : Kp [] (upd H10 l (.lst xs)) (upd (upd H10 l (.lst xs)) dd (.own o)) := Kp.new nd
      have kb1 : Kp [] (upd (upd H10 l (.lst xs)) dd (.own o)) (upd (upd (upd H10 l (.lst xs)) dd (.own o)) o (.ins OP dd [])) := Kp.new (by rw [upd_ne (Ne.symm hdo)]; exact no)
      have kb := (ka.trans kb0).trans kb1
      have hlb := (kb0.trans kb1) _ _ not0 (upd_same (H := H10) (a := l) (o := .lst xs))
      have hob : (upd (upd (upd H10 l (.lst xs)) dd (.own o)) o (.ins OP dd [])) o = some (.ins OP dd []) := upd_same
      generalize (upd (upd (upd H10 l (.lst xs)) dd (.own o)) o (.ins OP dd [])) = Hb at kb hlb hob ⊢
      have hol : o ≠ l := ne_of hob hlb (fun z => by cases z)
      have kab := k10.trans kb
      have hosp : ∀ {p : Addr} {ys : List V}, Hb p = some (.lst ys) → p ∉ [o] := fun e => not1 (ne_of e hob (fun z => by cases z))
      refine ⟨o, dd, l, z0, xs, ls, rfl, hob, nameS_of hz0, nm_len hz0, sq_l hlb, hol, hs.kp kab, (fun e => by rw [e] at x1; exact absurd x1 (by decide)), x2, ?_, ?_⟩
      · intro hN l2 H' nl2 ho2 hl2 k2
        cases hF.uniq hN
        have l1 : ∀ b ∈ [o], ∃ ys, Hb b = some (.lst ys) → False := fun b hb => ⟨[], fun e => by rw [List.mem_singleton.mp hb, hob] at e; cases e⟩
        have hstb := kb _ _ not0 hst10
        have hst2 := k2 _ _ (hosp hstb) hstb
        have hs2 : Steps H' xs ls := (hs.kp kab).kpT k2 fun a ha ys e => by rw [List.mem_singleton.mp ha, hob] at e; cases e
        refine ⟨rfl, -1, rfl, ?_⟩
        rw [if_neg (by decide)]
        refine ⟨.ref o, rfl, o, dd, opFs z0 l2, rfl, ho2, rfl, ?_⟩
        refine ⟨o, dd, l2, z0, xs, ls, rfl, ho2, hl2, hs2, by omega, hF, fun p us ps b H3 np hp hprs plen hsec hb' htail k3 => ?_⟩
        refine ⟨st, p, xs, us, ls, ps, b, rfl, k3 _ _ not0 hst2, hs2.kp k3, by omega, hp, hprs, hsec, hb', htail, fun H4 k4 => ?_⟩
        simp only [tSeq, tIfS, tTest, tOp, tUn, tCB, tCons, tNil, tVar, tC, rI0, rI, rU, rEq, rNe, tRet, tRetN, tAsg, gName, gSub, tBM, tBM0, tNext, tB, tNot, tAnd, tOr, tIf, tCall, tDrop, tBreak, tCont, L2.start, tDGet, sDPut, tTup, tLst, tDNewK, tRevL, rCat, rAppend, rPop, rSetL, tAndV, tOrV, tNotV, tSl, tPart, tNoPart, tM1, gTup, gCons, gNil, cxK, cxnK, List.map_cons, List.map_nil, List.length_cons, List.length_nil, List.replicate, List.cons_append, List.nil_append, List.append_nil, List.set_cons_zero, List.set_cons_succ, List.getElem?_cons_zero, List.getElem?_cons_succ, Option.some.injEq, V.ref.injEq, V.int.injEq, V.str.injEq, V.bl.injEq, V.ty.injEq, exists_eq_left', exists_eq_left, exists_and_left, List.cons.injEq, and_true, true_and, sc_ii, sc_ss, sc_bb, sc_ni, sc_in, sc_is, sc_si, sc_nn, decide_true, decide_false, reduceCtorEq, Bool.false_eq_true, if_true, if_false, ite_true, ite_false, exists_const, eq_self, false_and, and_false, or_false, false_or, exists_false, Evl.rLenS, rSum, wipe, tYes, exists_eq, exists_eq', rIxL, rIxT, rIxS, exists_and_right, gt_iff_lt, not_true_eq_false, not_false_eq_true, Bool.not_true, Bool.not_false, decide_eq_true_eq, Nat.reduceSub, Nat.reduceAdd, List.append_assoc, tChain, tDIn, tDNotIn, sDDel, tAug, ipI]
        have hp4 := k4 _ _ not0 hp
        refine ⟨.inl ⟨rfl, _, sq_l hp4⟩, p, us, rfl, rfl, hp4, ?_⟩
        have ho4 := k4 _ _ not0 (k3 _ _ not0 ho2)
        have hl4 := k4 _ _ not0 (k3 _ _ not0 hl2)
        have hst4 := k4 _ _ not0 (k3 _ _ not0 hst2)
        have pn : ∀ {b : Addr} {u : HO}, H' b = some u → b ≠ p := fun e => ne_of_none e np
        have k5 : Kp [p] H4 (upd H4 p (.lst [])) := (Kp.refl [p] _).put (List.mem_singleton.mpr rfl)
        have hs5 : Steps (upd H4 p (.lst [])) xs ls := ((hs2.kp k3).kp k4).kpT k5 fun a ha ys e => by rw [List.mem_singleton.mp ha, hp4] at e; cases e
        refine ⟨.ref o, rfl, o, dd, opFs z0 l2, rfl, k5 _ _ (not1 (pn ho2)) ho4, rfl, ?_⟩
        refine ⟨o, dd, l2, z0, xs, ls, rfl, k5 _ _ (not1 (pn ho2)) ho4, k5 _ _ (not1 (pn hl2)) hl4, hs5, by omega, hF, fun p2 us2 ps2 b2 H6 np2 hp2 hprs2 plen2 hsec2 hb2 htail2 k6 => ?_⟩
        refine ⟨st, p2, xs, us2, ls, ps2, b2, rfl, k6 _ _ not0 (k5 _ _ (not1 (pn hst2)) hst4), hs5.kp k6, by omega, hp2, hprs2, hsec2, hb2, htail2, fun H7 k7 => q H7⟩
      · intro k hK e H' ne he k2
        cases hF.uniq hK
        refine ⟨true, T.EX_BadStep, fun _ a na => ?_, fun z => by cases z⟩
        have hnl2 := k2 _ _ not0 (kb _ _ not0 hnl10)
        have hk : k ≤ 1000 := by
          have := hs.1
          cases hK <;> omega
        have il : ((k : Nat) : Int).natAbs.log2 < 1920 := by
          rw [Int.natAbs_natCast]
          by_cases e0 : k = 0
          · rw [e0]; decide
          rw [Nat.log2_lt e0]
          have h0 : (1000 : Nat) < 2 ^ 1920 := by decide +kernel
          omega
        simp only [tSeq, tIfS, tTest, tOp, tUn, tCB, tCons, tNil, tVar, tC, rI0, rI, rU, rEq, rNe, tRet, tRetN, tAsg, gName, gSub, tBM, tBM0, tNext, tB, tNot, tAnd, tOr, tIf, tCall, tDrop, tBreak, tCont, L2.start, tDGet, sDPut, tTup, tLst, tDNewK, tRevL, rCat, rAppend, rPop, rSetL, tAndV, tOrV, tNotV, tSl, tPart, tNoPart, tM1, gTup, gCons, gNil, cxK, cxnK, List.map_cons, List.map_nil, List.length_cons, List.length_nil, List.replicate, List.cons_append, List.nil_append, List.append_nil, List.set_cons_zero, List.set_cons_succ, List.getElem?_cons_zero, List.getElem?_cons_succ, Option.some.injEq, V.ref.injEq, V.int.injEq, V.str.injEq, V.bl.injEq, V.ty.injEq, exists_eq_left', exists_eq_left, exists_and_left, List.cons.injEq, and_true, true_and, sc_ii, sc_ss, sc_bb, sc_ni, sc_in, sc_is, sc_si, sc_nn, decide_true, decide_false, reduceCtorEq, Bool.false_eq_true, if_true, if_false, ite_true, ite_false, exists_const, eq_self, false_and, and_false, or_false, false_or, exists_false, Evl.rLenS, rSum, wipe, tYes, exists_eq, exists_eq', rIxL, rIxT, rIxS, exists_and_right, gt_iff_lt, not_true_eq_false, not_false_eq_true, Bool.not_true, Bool.not_false, decide_eq_true_eq, Nat.reduceSub, Nat.reduceAdd, List.append_assoc, tChain, tDIn, tDNotIn, sDDel, tAug, ipI, tXf, wrV]
        rw [if_pos (show (0 : Int) ≤ ((k : Nat) : Int) by omega)]
        refine ⟨_, he, _, rfl, _, he, _, rfl, small (by decide), fun p np => ?_⟩
        have shp : ∀ {a : Addr} {H : Hp}, H a = some (.lst [.str z0, .int (k : Nat)]) → Dp K H (.ref a) (.list [.str z0, .int (k : Nat)]) := fun e => two_dp e
        have ts := two_shown hz0 il
        have sh : (PyData.list [.str z0, .int ((k : Nat) : Int)]).showable = true := by simp [PyData.showable, PyData.showableAll]; simpa using il
        have dl : (PyData.list [.str z0, .int ((k : Nat) : Int)]).depth ≤ 60 := by simp [PyData.depth, PyData.depthAll]
        refine ⟨p, _, rfl, shp upd_same, sh, rfl, dl, ts, ?_⟩
        refine ⟨_, sq_l ((Kp.new np (S := [])) _ _ not0 hnl2), _, atI_of (by decide) rfl, small (by decide), fun p2 np2 => ?_⟩
        refine ⟨p2, _, rfl, shp upd_same, sh, rfl, dl, ts, ?_⟩
        simp only [tSeq, tIfS, tTest, tOp, tUn, tCB, tCons, tNil, tVar, tC, rI0, rI, rU, rEq, rNe, tRet, tRetN, tAsg, gName, gSub, tBM, tBM0, tNext, tB, tNot, tAnd, tOr, tIf, tCall, tDrop, tBreak, tCont, L2.start, tDGet, sDPut, tTup, tLst, tDNewK, tRevL, rCat, rAppend, rPop, rSetL, tAndV, tOrV, tNotV, tSl, tPart, tNoPart, tM1, gTup, gCons, gNil, cxK, cxnK, List.map_cons, List.map_nil, List.length_cons, List.length_nil, List.replicate, List.cons_append, List.nil_append, List.append_nil, List.set_cons_zero, List.set_cons_succ, List.getElem?_cons_zero, List.getElem?_cons_succ, Option.some.injEq, V.ref.injEq, V.int.injEq, V.str.injEq, V.bl.injEq, V.ty.injEq, exists_eq_left', exists_eq_left, exists_and_left, List.cons.injEq, and_true, true_and, sc_ii, sc_ss, sc_bb, sc_ni, sc_in, sc_is, sc_si, sc_nn, decide_true, decide_false, reduceCtorEq, Bool.false_eq_true, if_true, if_false, ite_true, ite_false, exists_const, eq_self, false_and, and_false, or_false, false_or, exists_false, Evl.rLenS, rSum, wipe, tYes, exists_eq, exists_eq', rIxL, rIxT, rIxS, exists_and_right, gt_iff_lt, not_true_eq_false, not_false_eq_true, Bool.not_true, Bool.not_false, decide_eq_true_eq, Nat.reduceSub, Nat.reduceAdd, List.append_assoc, tChain, tDIn, tDNotIn, sDDel, tAug, ipI]
        exact q _
    refine ⟨_, (pss_cons (ps_set (i := 1) sc_law.nd rfl (Or.inl rfl) (pe_call G_law_row (hr.mono (by decide)) rfl D_law_row.g D_law_row.F.kp D_law_row.b .nil pass0 (pa_cons (pv 0) pa_nil)))
      (pss_cons (ps_set (i := 2) sc_law.nd rfl (Or.inl rfl) (pe_call G_law_names (hr.mono (by decide)) rfl D_law_names.g D_law_names.F.kp D_law_names.b .nil pass0 (pa_cons (pv 1) (pa_cons pe_int pa_nil))))
      (pss_cons (ps_set (i := 3) sc_law.nd rfl (Or.inl rfl) (pe_slice sl_list (pv 2) (po_some pe_int) (po_some (pe_op op_add pe_int (pe_call G_law_draw (hr.mono (by decide)) rfl D_law_draw.g D_law_draw.F.kp D_law_draw.b .nil pass0 (pa_cons (pv 1) (pa_cons pe_int pa_nil)))))))
      (pss_cons (ps_set (i := 4) sc_law.nd rfl (Or.inl rfl) (pe_ix (r := rIxL K) ix_list (pe_lst (pa_cons (pe_ix (r := rIxL K) ix_list (pv 2) pe_int (fun _ _ => rfl)) (pa_cons (pe_ix (r := rIxL K) ix_list (pv 2) pe_int (fun _ _ => rfl)) pa_nil))) (pe_call G_law_draw (hr.mono (by decide)) rfl D_law_draw.g D_law_draw.F.kp D_law_draw.b .nil pass0 (pa_cons (pv 1) (pa_cons pe_int pa_nil))) (fun _ _ => rfl)))
      (pss_cons (ps_set (i := 5) sc_law.nd rfl (Or.inl rfl) (pe_call G_law_size (hr.mono (by decide)) rfl D_law_size.g D_law_size.F.kp D_law_size.b .nil pass0 (pa_cons (pv 1) pa_nil)))
      (pss_cons (ps_set (i := 6) sc_law.nd rfl (Or.inl rfl) (pe_call G_law_draw (hr.mono (by decide)) rfl D_law_draw.g D_law_draw.F.kp D_law_draw.b .nil pass0 (pa_cons (pv 1) (pa_cons pe_int pa_nil))))
      (pss_cons (ps_if (pt_cmpR op_eq (pv 6) pe_int (nomark _)) (pss_one (ps_set (i := 7) sc_law.nd rfl (Or.inl rfl) (pe_call G_law_any (hr.mono (by decide)) rfl D_law_any.g D_law_any.F.kp D_law_any.b .nil pass0 (pa_cons (pv 1) (pa_cons (pv 4) (pa_cons (pv 3) (pa_cons (pe_op op_add (pv 5) pe_int) pa_nil))))))) (pss_one (ps_set (i := 7) sc_law.nd rfl (Or.inl rfl) (pe_call G_law_balanced (hr.mono (by decide)) rfl D_law_balanced.g D_law_balanced.F.kp D_law_balanced.b .nil pass0 (pa_cons (pv 1) (pa_cons (pv 4) (pa_cons (pv 3) (pa_cons (pv 5) pa_nil))))))))
      (pss_cons (ps_if (pt_cmpR op_eq (pv 6) pe_int (nomark _)) (pss_one (ps_set (i := 7) sc_law.nd rfl (Or.inl rfl) (pe_call G_law_changed (hr.mono (by decide)) rfl D_law_changed.g D_law_changed.F.kp D_law_changed.b .nil pass0 (pa_cons (pv 1) (pa_cons (pv 7) (pa_cons (pv 3) pa_nil)))))) pss_nil)
      ht)))))))), ?_⟩
    simp only [tSeq, tIfS, tTest, tOp, tUn, tCB, tCons, tNil, tVar, tC, rI0, rI, rU, rEq, rNe, tRet, tRetN, tAsg, gName, gSub, tBM, tBM0, tNext, tB, tNot, tAnd, tOr, tIf, tCall, tDrop, tBreak, tCont, L2.start, tDGet, sDPut, tTup, tLst, tDNewK, tRevL, rCat, rAppend, rPop, rSetL, tAndV, tOrV, tNotV, tSl, tPart, tNoPart, tM1, gTup, gCons, gNil, cxK, cxnK, List.map_cons, List.map_nil, List.length_cons, List.length_nil, List.replicate, List.cons_append, List.nil_append, List.append_nil, List.set_cons_zero, List.set_cons_succ, List.getElem?_cons_zero, List.getElem?_cons_succ, Option.some.injEq, V.ref.injEq, V.int.injEq, V.str.injEq, V.bl.injEq, V.ty.injEq, exists_eq_left', exists_eq_left, exists_and_left, List.cons.injEq, and_true, true_and, sc_ii, sc_ss, sc_bb, sc_ni, sc_in, sc_is, sc_si, sc_nn, decide_true, decide_false, reduceCtorEq, Bool.false_eq_true, if_true, if_false, ite_true, ite_false, exists_const, eq_self, false_and, and_false, or_false, false_or, exists_false, Evl.rLenS, rSum, wipe, tYes, exists_eq, exists_eq', rIxL, rIxT, rIxS, exists_and_right, gt_iff_lt, not_true_eq_false, not_false_eq_true, Bool.not_true, Bool.not_false, decide_eq_true_eq, Nat.reduceSub, Nat.reduceAdd, List.append_assoc, tChain, tDIn, tDNotIn, sDDel, tAug, ipI]
    refine ⟨a, ns, rfl, hS, hl, fun rw_ H1 n1 R1 k1 => ?_⟩
    simp only [tSeq, tIfS, tTest, tOp, tUn, tCB, tCons, tNil, tVar, tC, rI0, rI, rU, rEq, rNe, tRet, tRetN, tAsg, gName, gSub, tBM, tBM0, tNext, tB, tNot, tAnd, tOr, tIf, tCall, tDrop, tBreak, tCont, L2.start, tDGet, sDPut, tTup, tLst, tDNewK, tRevL, rCat, rAppend, rPop, rSetL, tAndV, tOrV, tNotV, tSl, tPart, tNoPart, tM1, gTup, gCons, gNil, cxK, cxnK, List.map_cons, List.map_nil, List.length_cons, List.length_nil, List.replicate, List.cons_append, List.nil_append, List.append_nil, List.set_cons_zero, List.set_cons_succ, List.getElem?_cons_zero, List.getElem?_cons_succ, Option.some.injEq, V.ref.injEq, V.int.injEq, V.str.injEq, V.bl.injEq, V.ty.injEq, exists_eq_left', exists_eq_left, exists_and_left, List.cons.injEq, and_true, true_and, sc_ii, sc_ss, sc_bb, sc_ni, sc_in, sc_is, sc_si, sc_nn, decide_true, decide_false, reduceCtorEq, Bool.false_eq_true, if_true, if_false, ite_true, ite_false, exists_const, eq_self, false_and, and_false, or_false, false_or, exists_false, Evl.rLenS, rSum, wipe, tYes, exists_eq, exists_eq', rIxL, rIxT, rIxS, exists_and_right, gt_iff_lt, not_true_eq_false, not_false_eq_true, Bool.not_true, Bool.not_false, decide_eq_true_eq, Nat.reduceSub, Nat.reduceAdd, List.append_assoc, tChain, tDIn, tDNotIn, sDDel, tAug, ipI]
    refine ⟨rw_, 6, rfl, R1, by decide, by decide, fun nl zs H2 n2 hnl hzl hzn hzd R2 k2 => ?_⟩
    simp only [tSeq, tIfS, tTest, tOp, tUn, tCB, tCons, tNil, tVar, tC, rI0, rI, rU, rEq, rNe, tRet, tRetN, tAsg, gName, gSub, tBM, tBM0, tNext, tB, tNot, tAnd, tOr, tIf, tCall, tDrop, tBreak, tCont, L2.start, tDGet, sDPut, tTup, tLst, tDNewK, tRevL, rCat, rAppend, rPop, rSetL, tAndV, tOrV, tNotV, tSl, tPart, tNoPart, tM1, gTup, gCons, gNil, cxK, cxnK, List.map_cons, List.map_nil, List.length_cons, List.length_nil, List.replicate, List.cons_append, List.nil_append, List.append_nil, List.set_cons_zero, List.set_cons_succ, List.getElem?_cons_zero, List.getElem?_cons_succ, Option.some.injEq, V.ref.injEq, V.int.injEq, V.str.injEq, V.bl.injEq, V.ty.injEq, exists_eq_left', exists_eq_left, exists_and_left, List.cons.injEq, and_true, true_and, sc_ii, sc_ss, sc_bb, sc_ni, sc_in, sc_is, sc_si, sc_nn, decide_true, decide_false, reduceCtorEq, Bool.false_eq_true, if_true, if_false, ite_true, ite_false, exists_const, eq_self, false_and, and_false, or_false, false_or, exists_false, Evl.rLenS, rSum, wipe, tYes, exists_eq, exists_eq', rIxL, rIxT, rIxS, exists_and_right, gt_iff_lt, not_true_eq_false, not_false_eq_true, Bool.not_true, Bool.not_false, decide_eq_true_eq, Nat.reduceSub, Nat.reduceAdd, List.append_assoc, tChain, tDIn, tDNotIn, sDDel, tAug, ipI]
    have hne : nl ≠ rw_ := (R1.ne n2).symm
    refine ⟨rw_, 4, rfl, R2, by decide, fun d H3 d0 d1 R3 k3 => ?_⟩
    simp only [tSeq, tIfS, tTest, tOp, tUn, tCB, tCons, tNil, tVar, tC, rI0, rI, rU, rEq, rNe, tRet, tRetN, tAsg, gName, gSub, tBM, tBM0, tNext, tB, tNot, tAnd, tOr, tIf, tCall, tDrop, tBreak, tCont, L2.start, tDGet, sDPut, tTup, tLst, tDNewK, tRevL, rCat, rAppend, rPop, rSetL, tAndV, tOrV, tNotV, tSl, tPart, tNoPart, tM1, gTup, gCons, gNil, cxK, cxnK, List.map_cons, List.map_nil, List.length_cons, List.length_nil, List.replicate, List.cons_append, List.nil_append, List.append_nil, List.set_cons_zero, List.set_cons_succ, List.getElem?_cons_zero, List.getElem?_cons_succ, Option.some.injEq, V.ref.injEq, V.int.injEq, V.str.injEq, V.bl.injEq, V.ty.injEq, exists_eq_left', exists_eq_left, exists_and_left, List.cons.injEq, and_true, true_and, sc_ii, sc_ss, sc_bb, sc_ni, sc_in, sc_is, sc_si, sc_nn, decide_true, decide_false, reduceCtorEq, Bool.false_eq_true, if_true, if_false, ite_true, ite_false, exists_const, eq_self, false_and, and_false, or_false, false_or, exists_false, Evl.rLenS, rSum, wipe, tYes, exists_eq, exists_eq', rIxL, rIxT, rIxS, exists_and_right, gt_iff_lt, not_true_eq_false, not_false_eq_true, Bool.not_true, Bool.not_false, decide_eq_true_eq, Nat.reduceSub, Nat.reduceAdd, List.append_assoc, tChain, tDIn, tDNotIn, sDDel, tAug, ipI]
    have hnl3 := k3 _ _ (not1 hne) hnl
    refine ⟨nl, _, rfl, sq_l hnl3, fun lk nlk => ?_⟩
    simp only [tSeq, tIfS, tTest, tOp, tUn, tCB, tCons, tNil, tVar, tC, rI0, rI, rU, rEq, rNe, tRet, tRetN, tAsg, gName, gSub, tBM, tBM0, tNext, tB, tNot, tAnd, tOr, tIf, tCall, tDrop, tBreak, tCont, L2.start, tDGet, sDPut, tTup, tLst, tDNewK, tRevL, rCat, rAppend, rPop, rSetL, tAndV, tOrV, tNotV, tSl, tPart, tNoPart, tM1, gTup, gCons, gNil, cxK, cxnK, List.map_cons, List.map_nil, List.length_cons, List.length_nil, List.replicate, List.cons_append, List.nil_append, List.append_nil, List.set_cons_zero, List.set_cons_succ, List.getElem?_cons_zero, List.getElem?_cons_succ, Option.some.injEq, V.ref.injEq, V.int.injEq, V.str.injEq, V.bl.injEq, V.ty.injEq, exists_eq_left', exists_eq_left, exists_and_left, List.cons.injEq, and_true, true_and, sc_ii, sc_ss, sc_bb, sc_ni, sc_in, sc_is, sc_si, sc_nn, decide_true, decide_false, reduceCtorEq, Bool.false_eq_true, if_true, if_false, ite_true, ite_false, exists_const, eq_self, false_and, and_false, or_false, false_or, exists_false, Evl.rLenS, rSum, wipe, tYes, exists_eq, exists_eq', rIxL, rIxT, rIxS, exists_and_right, gt_iff_lt, not_true_eq_false, not_false_eq_true, Bool.not_true, Bool.not_false, decide_eq_true_eq, Nat.reduceSub, Nat.reduceAdd, List.append_assoc, tChain, tDIn, tDNotIn, sDDel, tAug, ipI]
    obtain ⟨z0, z1, z2, z3, z4, z5, rfl⟩ : ∃ a b c d e f, zs = [a, b, c, d, e, f] := by
      match zs, hzl with
      | [a, b, c, d, e, f], _ => exact ⟨a, b, c, d, e, f, rfl⟩
    obtain ⟨lks, hlks, hl0, hl10, hly⟩ : ∃ lks : List Str, cutV (([z0, z1, z2, z3, z4, z5] : List Str).map V.str) (some 1) (some (2 + d)) = lks.map V.str ∧ lks ≠ [] ∧ lks.length ≤ 10 ∧ ∀ y ∈ lks, Nm y := by
      refine ⟨_, cut_map, ?_, ?_, fun y hy => hzn y (List.mem_of_mem_drop (List.mem_of_mem_take hy))⟩
      · intro e
        rw [sIx_pos (show (0 : Int) ≤ 1 by decide), sIx_pos (show (0 : Int) ≤ 2 + d by omega)] at e
        have := congrArg List.length e
        simp only [List.length_take, List.length_drop, List.length_cons, List.length_nil] at this
        omega
      · simp only [List.length_take, List.length_drop, List.length_cons, List.length_nil]; omega
    have kk : Kp [] H3 (upd H3 lk (.lst (lks.map V.str))) := Kp.new nlk
    simp only [List.map_cons, List.map_nil] at hlks
    simp only [tSeq, tIfS, tTest, tOp, tUn, tCB, tCons, tNil, tVar, tC, rI0, rI, rU, rEq, rNe, tRet, tRetN, tAsg, gName, gSub, tBM, tBM0, tNext, tB, tNot, tAnd, tOr, tIf, tCall, tDrop, tBreak, tCont, L2.start, tDGet, sDPut, tTup, tLst, tDNewK, tRevL, rCat, rAppend, rPop, rSetL, tAndV, tOrV, tNotV, tSl, tPart, tNoPart, tM1, gTup, gCons, gNil, cxK, cxnK, List.map_cons, List.map_nil, List.length_cons, List.length_nil, List.replicate, List.cons_append, List.nil_append, List.append_nil, List.set_cons_zero, List.set_cons_succ, List.getElem?_cons_zero, List.getElem?_cons_succ, Option.some.injEq, V.ref.injEq, V.int.injEq, V.str.injEq, V.bl.injEq, V.ty.injEq, exists_eq_left', exists_eq_left, exists_and_left, List.cons.injEq, and_true, true_and, sc_ii, sc_ss, sc_bb, sc_ni, sc_in, sc_is, sc_si, sc_nn, decide_true, decide_false, reduceCtorEq, Bool.false_eq_true, if_true, if_false, ite_true, ite_false, exists_const, eq_self, false_and, and_false, or_false, false_or, exists_false, Evl.rLenS, rSum, wipe, tYes, exists_eq, exists_eq', rIxL, rIxT, rIxS, exists_and_right, gt_iff_lt, not_true_eq_false, not_false_eq_true, Bool.not_true, Bool.not_false, decide_eq_true_eq, Nat.reduceSub, Nat.reduceAdd, List.append_assoc, tChain, tDIn, tDNotIn, sDDel, tAug, ipI, hlks]
    have R3' := R3.kp0 kk
    have hnl4 := kk _ _ not0 hnl3
    have hlk4 : (upd H3 lk (.lst (lks.map V.str))) lk = some (.lst (lks.map V.str)) := upd_same
    have hlr : lk ≠ rw_ := (R3.ne nlk).symm
    refine ⟨_, sq_l hnl4, _, atI_of (by decide) rfl, _, sq_l hnl4, _, atI_of (by decide) rfl, small (by decide), fun two n5 => ?_⟩
    have k5 : Kp [] (upd H3 lk (.lst (lks.map V.str))) (upd (upd H3 lk (.lst (lks.map V.str))) two (.lst [V.str z5, V.str z1])) := Kp.new n5
    refine ⟨rw_, 2, rfl, R3'.kp0 k5, by decide, fun c H6 c0 c1 R6 k6 => ?_⟩
    simp only [tSeq, tIfS, tTest, tOp, tUn, tCB, tCons, tNil, tVar, tC, rI0, rI, rU, rEq, rNe, tRet, tRetN, tAsg, gName, gSub, tBM, tBM0, tNext, tB, tNot, tAnd, tOr, tIf, tCall, tDrop, tBreak, tCont, L2.start, tDGet, sDPut, tTup, tLst, tDNewK, tRevL, rCat, rAppend, rPop, rSetL, tAndV, tOrV, tNotV, tSl, tPart, tNoPart, tM1, gTup, gCons, gNil, cxK, cxnK, List.map_cons, List.map_nil, List.length_cons, List.length_nil, List.replicate, List.cons_append, List.nil_append, List.append_nil, List.set_cons_zero, List.set_cons_succ, List.getElem?_cons_zero, List.getElem?_cons_succ, Option.some.injEq, V.ref.injEq, V.int.injEq, V.str.injEq, V.bl.injEq, V.ty.injEq, exists_eq_left', exists_eq_left, exists_and_left, List.cons.injEq, and_true, true_and, sc_ii, sc_ss, sc_bb, sc_ni, sc_in, sc_is, sc_si, sc_nn, decide_true, decide_false, reduceCtorEq, Bool.false_eq_true, if_true, if_false, ite_true, ite_false, exists_const, eq_self, false_and, and_false, or_false, false_or, exists_false, Evl.rLenS, rSum, wipe, tYes, exists_eq, exists_eq', rIxL, rIxT, rIxS, exists_and_right, gt_iff_lt, not_true_eq_false, not_false_eq_true, Bool.not_true, Bool.not_false, decide_eq_true_eq, Nat.reduceSub, Nat.reduceAdd, List.append_assoc, tChain, tDIn, tDNotIn, sDDel, tAug, ipI]
    have htwo : two ≠ rw_ := ((R3').ne n5).symm
    have ht6 := k6 _ _ (not1 htwo) (show _ = some (HO.lst [V.str z5, V.str z1]) from upd_same)
    have hlk6 := k6 _ _ (not1 hlr) (k5 _ _ not0 hlk4)
    have hnl6 := k6 _ _ (not1 hne) (k5 _ _ not0 hnl4)
    obtain ⟨nm, hnm, enm⟩ : ∃ nm, Nm nm ∧ atI [V.str z5, V.str z1] c = some (.str nm) := by
      rcases (show c = 0 ∨ c = 1 by omega) with rfl | rfl
      · exact ⟨z5, hzn _ (by simp), rfl⟩
      · exact ⟨z1, hzn _ (by simp), rfl⟩
    refine ⟨_, sq_l ht6, _, enm, rw_, rfl, R6, fun m H7 m0 m1 R7 k7 => ?_⟩
    simp only [tSeq, tIfS, tTest, tOp, tUn, tCB, tCons, tNil, tVar, tC, rI0, rI, rU, rEq, rNe, tRet, tRetN, tAsg, gName, gSub, tBM, tBM0, tNext, tB, tNot, tAnd, tOr, tIf, tCall, tDrop, tBreak, tCont, L2.start, tDGet, sDPut, tTup, tLst, tDNewK, tRevL, rCat, rAppend, rPop, rSetL, tAndV, tOrV, tNotV, tSl, tPart, tNoPart, tM1, gTup, gCons, gNil, cxK, cxnK, List.map_cons, List.map_nil, List.length_cons, List.length_nil, List.replicate, List.cons_append, List.nil_append, List.append_nil, List.set_cons_zero, List.set_cons_succ, List.getElem?_cons_zero, List.getElem?_cons_succ, Option.some.injEq, V.ref.injEq, V.int.injEq, V.str.injEq, V.bl.injEq, V.ty.injEq, exists_eq_left', exists_eq_left, exists_and_left, List.cons.injEq, and_true, true_and, sc_ii, sc_ss, sc_bb, sc_ni, sc_in, sc_is, sc_si, sc_nn, decide_true, decide_false, reduceCtorEq, Bool.false_eq_true, if_true, if_false, ite_true, ite_false, exists_const, eq_self, false_and, and_false, or_false, false_or, exists_false, Evl.rLenS, rSum, wipe, tYes, exists_eq, exists_eq', rIxL, rIxT, rIxS, exists_and_right, gt_iff_lt, not_true_eq_false, not_false_eq_true, Bool.not_true, Bool.not_false, decide_eq_true_eq, Nat.reduceSub, Nat.reduceAdd, List.append_assoc, tChain, tDIn, tDNotIn, sDDel, tAug, ipI]
    refine ⟨rw_, 4, rfl, R7, by decide, fun mo H8 o0 o1 R8 k8 => ?_⟩
    simp only [tSeq, tIfS, tTest, tOp, tUn, tCB, tCons, tNil, tVar, tC, rI0, rI, rU, rEq, rNe, tRet, tRetN, tAsg, gName, gSub, tBM, tBM0, tNext, tB, tNot, tAnd, tOr, tIf, tCall, tDrop, tBreak, tCont, L2.start, tDGet, sDPut, tTup, tLst, tDNewK, tRevL, rCat, rAppend, rPop, rSetL, tAndV, tOrV, tNotV, tSl, tPart, tNoPart, tM1, gTup, gCons, gNil, cxK, cxnK, List.map_cons, List.map_nil, List.length_cons, List.length_nil, List.replicate, List.cons_append, List.nil_append, List.append_nil, List.set_cons_zero, List.set_cons_succ, List.getElem?_cons_zero, List.getElem?_cons_succ, Option.some.injEq, V.ref.injEq, V.int.injEq, V.str.injEq, V.bl.injEq, V.ty.injEq, exists_eq_left', exists_eq_left, exists_and_left, List.cons.injEq, and_true, true_and, sc_ii, sc_ss, sc_bb, sc_ni, sc_in, sc_is, sc_si, sc_nn, decide_true, decide_false, reduceCtorEq, Bool.false_eq_true, if_true, if_false, ite_true, ite_false, exists_const, eq_self, false_and, and_false, or_false, false_or, exists_false, Evl.rLenS, rSum, wipe, tYes, exists_eq, exists_eq', rIxL, rIxT, rIxS, exists_and_right, gt_iff_lt, not_true_eq_false, not_false_eq_true, Bool.not_true, Bool.not_false, decide_eq_true_eq, Nat.reduceSub, Nat.reduceAdd, List.append_assoc, tChain, tDIn, tDNotIn, sDDel, tAug, ipI]
    have k78 := k7.trans k8
    have hlk8 := k78 _ _ (not1 hlr) hlk6
    have hnl8 := k78 _ _ (not1 hne) hnl6
    have hlkr : lk ∉ [rw_] := not1 hlr
    have hnlr : nl ∉ [rw_] := not1 hne
    have go2 : ∀ (st : Addr) (xs : List V) (H9 : Hp), H9 st = some (.lst xs) → StepsIn H9 lks xs → 1 ≤ xs.length → xs.length ≤ 80 → Kp [rw_] H8 H9 → t { nx := fun x H' => Q V.non H', rt := Q } [some (.ref a), some (.ref rw_), some (.ref nl), some (.ref lk), some (.str nm), some (.int m), some (.int mo), some (.ref st), none, none, none, none] H9 := fun st xs H9 e1 e2 e3 e4 k =>
      hq _ _ ⟨_, _, _, _, _, nl, lk, st, z0, _, lks, xs, rfl, k _ _ hnlr hnl8, hzn z0 (by simp), k _ _ hlkr hlk8, hly, e1, e2, e3, e4⟩
    refine ite2 (fun h1 => ?_) (fun h1 => ?_)
    · refine ⟨rw_, lk, nm, lks, m + 1, rfl, R8, hnm, hlk8, hlr, hl0, hly, hl10, by omega, by omega, fun st xs H9 n9 hst hx hxl R9 k9 => ?_⟩
      refine ite2 (fun h2 => ?_) (fun h2 => ?_)
      · omega
      · exact go2 st xs H9 hst hx (by omega) (by omega) k9
    · refine ⟨rw_, lk, nm, lks, m, rfl, R8, hnm, hlk8, hlr, hl0, hly, hl10, by omega, by omega, fun st xs H9 n9 hst hx hxl R9 k9 => ?_⟩
      refine ite2 (fun h2 => ?_) (fun h2 => ?_)
      · refine ⟨rw_, st, lk, xs, lks, rfl, R9, hst, (R8.ne n9).symm, k9 _ _ hlkr hlk8, hlr, hx, by omega, by omega, hl0, hly, hl10, fun p ys H10 np hp hy y1 y2 R10 k10 => ?_⟩
        exact go2 p ys H10 hp hy y1 y2 (k9.trans k10)
      · exact go2 st xs H9 hst hx (by omega) (by omega) k9
end
end My

set_option Elab.async false
set_option linter.all false
set_option maxRecDepth 100000
set_option maxHeartbeats 8000000
namespace My
open PySem L2 NdefX
theorem exm_selfB {K : PySem.W.Frag} {S : Addr} (h1 : PySem.W.subIn K (.ref S) (.type "BaseException") = some true) (h2 : PySem.W.isClsIn K S = true) (h3 : PySem.W.typeIn K (.ref S) = some (.type "type"))
    (h4 : PySem.W.subIn K (.ref S) (.ref S) = some true) : PySem.W.exmOne K (.ref S) (.ref S) = some true := by
  have i2 : (PySem.W.clsIn K S).isSome = true := h2
  unfold PySem.W.exmOne
  simp [PySem.W.kitCls, h1, i2, h3, h4]
theorem all_mk {l : PySem.W.OpenLaw} {w : World} {K : PySem.W.Frag} {h : Heap} {mg : Str → Option Value} {fa : Addr} (X : K.In h) (G : h.Ns mainGlobals mg) (hfa : mg "law" = some (.ref fa))
    {f0 f1 f2 f3 f4 f5 f6 f7 f8 f9 f10 f11 f12 f13 f14 f15 f16 f17 f18 f19 f20 f21 f22 f23 f24 : Addr}
    {od0 an0 od1 an1 od2 an2 od3 an3 od4 an4 od5 an5 od6 an6 od7 an7 od8 an8 od9 an9 od10 an10 od11 an11 od12 an12 od13 an13 od14 an14 od15 an15 od16 an16 od17 an17 od18 an18 od19 an19 od20 an20 od21 an21 od22 an22 od23 an23 od24 an24 odO anO odS anS odB anB ccd cdd : Option Addr}
    {sl0 sl1 sl2 sl3 sl4 sl5 sl6 sl7 sl8 sl9 sl10 sl11 sl12 sl13 sl14 sl15 sl16 sl17 sl18 sl19 sl20 sl21 sl22 sl23 sl24 slO slS slB ccs ccz : Array (Option Value)}
    {oc0 kV0 dc0 pm0 cd0 ct0 oc1 kV1 dc1 pm1 cd1 ct1 oc2 kV2 dc2 pm2 cd2 ct2 oc3 kV3 dc3 pm3 cd3 ct3 oc4 kV4 dc4 pm4 cd4 ct4 oc5 kV5 dc5 pm5 cd5 ct5 oc6 kV6 dc6 pm6 cd6 ct6 oc7 kV7 dc7 pm7 cd7 ct7 oc8 kV8 dc8 pm8 cd8 ct8 oc9 kV9 dc9 pm9 cd9 ct9 oc10 kV10 dc10 pm10 cd10 ct10 oc11 kV11 dc11 pm11 cd11 ct11 oc12 kV12 dc12 pm12 cd12 ct12 oc13 kV13 dc13 pm13 cd13 ct13 oc14 kV14 dc14 pm14 cd14 ct14 oc15 kV15 dc15 pm15 cd15 ct15 oc16 kV16 dc16 pm16 cd16 ct16 oc17 kV17 dc17 pm17 cd17 ct17 oc18 kV18 dc18 pm18 cd18 ct18 oc19 kV19 dc19 pm19 cd19 ct19 oc20 kV20 dc20 pm20 cd20 ct20 oc21 kV21 dc21 pm21 cd21 ct21 oc22 kV22 dc22 pm22 cd22 ct22 oc23 kV23 dc23 pm23 cd23 ct23 oc24 kV24 dc24 pm24 cd24 ct24 ocO dcO pmO cdO ctO ocS kVS dcS pmS cdS ctS ocB kVB dcB pmB ctB ccl ccx : Value}
    {OP fOp DK fS BS fB cc cda N FA SG : Addr}
    {tk1 tk2 tL t1 t2 tf : Tok}
    {nmB qB : Str}
    {bsB bmB subB : List Value}
    {snB : List Str}
    {abB : Bool}
    {colB : Option Bool}
    {ddB : Option Addr}
    {m0 m1 m2 m3 m5 : Option Value}
    {vsB : Array Value}
    {file : Str}
    {sL : Str}
    {esF : Array DictEntry}
    {nF : Nat}
    {R0 R1 R2 R3 R4 R5 R6 R7 R8 R9 R10 R11 : Addr}
    {its0 its1 its2 its3 its4 its5 its6 its7 its8 its9 its10 its11 its12 : Array Value}
    {nt0 nt1 nt2 nt3 nt4 nt5 nt6 nt7 nt8 nt9 nt10 nt11 nt12 : Nat}
    {sq0 sq1 sq2 sq3 sq4 sq5 sq6 sq7 sq8 sq9 sq10 sq11 sq12 : Array (Option Value)}
    {dt0 dt1 dt2 dt3 dt4 dt5 dt6 dt7 dt8 dt9 dt10 dt11 dt12 : Option Addr}
    (a0 : PySem.W.nsIn K mainGlobals "is_name" = some (some (.ref f0)))
    (l0 : K.lookup f0 = some ⟨oc0, od0, .func (PySem.W.fnOf "is_name" "is_name" (defArgs s_is_name) (defBody s_is_name) (defScope s_is_name) .none kV0 dc0 pm0 an0 cd0 ct0), sl0⟩)
    (c0 : PySem.W.codeIn K cd0 "is_name" = true)
    (k0 : PySem.W.keepIn K (.ref f0) = true)
    (a1 : PySem.W.nsIn K mainGlobals "is_below" = some (some (.ref f1)))
    (l1 : K.lookup f1 = some ⟨oc1, od1, .func (PySem.W.fnOf "is_below" "is_below" (defArgs s_is_below) (defBody s_is_below) (defScope s_is_below) .none kV1 dc1 pm1 an1 cd1 ct1), sl1⟩)
    (c1 : PySem.W.codeIn K cd1 "is_below" = true)
    (k1 : PySem.W.keepIn K (.ref f1) = true)
    (a2 : PySem.W.nsIn K mainGlobals "is_number" = some (some (.ref f2)))
    (l2 : K.lookup f2 = some ⟨oc2, od2, .func (PySem.W.fnOf "is_number" "is_number" (defArgs s_is_number) (defBody s_is_number) (defScope s_is_number) .none kV2 dc2 pm2 an2 cd2 ct2), sl2⟩)
    (c2 : PySem.W.codeIn K cd2 "is_number" = true)
    (k2 : PySem.W.keepIn K (.ref f2) = true)
    (a3 : PySem.W.nsIn K mainGlobals "is_place" = some (some (.ref f3)))
    (l3 : K.lookup f3 = some ⟨oc3, od3, .func (PySem.W.fnOf "is_place" "is_place" (defArgs s_is_place) (defBody s_is_place) (defScope s_is_place) .none kV3 dc3 pm3 an3 cd3 ct3), sl3⟩)
    (c3 : PySem.W.codeIn K cd3 "is_place" = true)
    (k3 : PySem.W.keepIn K (.ref f3) = true)
    (a4 : PySem.W.nsIn K mainGlobals "is_worth" = some (some (.ref f4)))
    (l4 : K.lookup f4 = some ⟨oc4, od4, .func (PySem.W.fnOf "is_worth" "is_worth" (defArgs s_is_worth) (defBody s_is_worth) (defScope s_is_worth) .none kV4 dc4 pm4 an4 cd4 ct4), sl4⟩)
    (c4 : PySem.W.codeIn K cd4 "is_worth" = true)
    (k4 : PySem.W.keepIn K (.ref f4) = true)
    (a5 : PySem.W.nsIn K mainGlobals "is_guard" = some (some (.ref f5)))
    (l5 : K.lookup f5 = some ⟨oc5, od5, .func (PySem.W.fnOf "is_guard" "is_guard" (defArgs s_is_guard) (defBody s_is_guard) (defScope s_is_guard) .none kV5 dc5 pm5 an5 cd5 ct5), sl5⟩)
    (c5 : PySem.W.codeIn K cd5 "is_guard" = true)
    (k5 : PySem.W.keepIn K (.ref f5) = true)
    (a6 : PySem.W.nsIn K mainGlobals "is_part" = some (some (.ref f6)))
    (l6 : K.lookup f6 = some ⟨oc6, od6, .func (PySem.W.fnOf "is_part" "is_part" (defArgs s_is_part) (defBody s_is_part) (defScope s_is_part) .none kV6 dc6 pm6 an6 cd6 ct6), sl6⟩)
    (c6 : PySem.W.codeIn K cd6 "is_part" = true)
    (k6 : PySem.W.keepIn K (.ref f6) = true)
    (a7 : PySem.W.nsIn K mainGlobals "is_step" = some (some (.ref f7)))
    (l7 : K.lookup f7 = some ⟨oc7, od7, .func (PySem.W.fnOf "is_step" "is_step" (defArgs s_is_step) (defBody s_is_step) (defScope s_is_step) .none kV7 dc7 pm7 an7 cd7 ct7), sl7⟩)
    (c7 : PySem.W.codeIn K cd7 "is_step" = true)
    (k7 : PySem.W.keepIn K (.ref f7) = true)
    (a8 : PySem.W.nsIn K mainGlobals "lock_fault" = some (some (.ref f8)))
    (l8 : K.lookup f8 = some ⟨oc8, od8, .func (PySem.W.fnOf "lock_fault" "lock_fault" (defArgs s_lock_fault) (defBody s_lock_fault) (defScope s_lock_fault) .none kV8 dc8 pm8 an8 cd8 ct8), sl8⟩)
    (c8 : PySem.W.codeIn K cd8 "lock_fault" = true)
    (k8 : PySem.W.keepIn K (.ref f8) = true)
    (a9 : PySem.W.nsIn K mainGlobals "sections_of" = some (some (.ref f9)))
    (l9 : K.lookup f9 = some ⟨oc9, od9, .func (PySem.W.fnOf "sections_of" "sections_of" (defArgs s_sections_of) (defBody s_sections_of) (defScope s_sections_of) .none kV9 dc9 pm9 an9 cd9 ct9), sl9⟩)
    (c9 : PySem.W.codeIn K cd9 "sections_of" = true)
    (k9 : PySem.W.keepIn K (.ref f9) = true)
    (a10 : PySem.W.nsIn K mainGlobals "_law_row" = some (some (.ref f10)))
    (l10 : K.lookup f10 = some ⟨oc10, od10, .func (PySem.W.fnOf "_law_row" "_law_row" (defArgs s_law_row) (defBody s_law_row) (defScope s_law_row) .none kV10 dc10 pm10 an10 cd10 ct10), sl10⟩)
    (c10 : PySem.W.codeIn K cd10 "_law_row" = true)
    (k10 : PySem.W.keepIn K (.ref f10) = true)
    (a11 : PySem.W.nsIn K mainGlobals "_law_draw" = some (some (.ref f11)))
    (l11 : K.lookup f11 = some ⟨oc11, od11, .func (PySem.W.fnOf "_law_draw" "_law_draw" (defArgs s_law_draw) (defBody s_law_draw) (defScope s_law_draw) .none kV11 dc11 pm11 an11 cd11 ct11), sl11⟩)
    (c11 : PySem.W.codeIn K cd11 "_law_draw" = true)
    (k11 : PySem.W.keepIn K (.ref f11) = true)
    (a12 : PySem.W.nsIn K mainGlobals "_law_word" = some (some (.ref f12)))
    (l12 : K.lookup f12 = some ⟨oc12, od12, .func (PySem.W.fnOf "_law_word" "_law_word" (defArgs s_law_word) (defBody s_law_word) (defScope s_law_word) .none kV12 dc12 pm12 an12 cd12 ct12), sl12⟩)
    (c12 : PySem.W.codeIn K cd12 "_law_word" = true)
    (k12 : PySem.W.keepIn K (.ref f12) = true)
    (a13 : PySem.W.nsIn K mainGlobals "_law_names" = some (some (.ref f13)))
    (l13 : K.lookup f13 = some ⟨oc13, od13, .func (PySem.W.fnOf "_law_names" "_law_names" (defArgs s_law_names) (defBody s_law_names) (defScope s_law_names) .none kV13 dc13 pm13 an13 cd13 ct13), sl13⟩)
    (c13 : PySem.W.codeIn K cd13 "_law_names" = true)
    (k13 : PySem.W.keepIn K (.ref f13) = true)
    (a14 : PySem.W.nsIn K mainGlobals "_law_other" = some (some (.ref f14)))
    (l14 : K.lookup f14 = some ⟨oc14, od14, .func (PySem.W.fnOf "_law_other" "_law_other" (defArgs s_law_other) (defBody s_law_other) (defScope s_law_other) .none kV14 dc14 pm14 an14 cd14 ct14), sl14⟩)
    (c14 : PySem.W.codeIn K cd14 "_law_other" = true)
    (k14 : PySem.W.keepIn K (.ref f14) = true)
    (a15 : PySem.W.nsIn K mainGlobals "_law_size" = some (some (.ref f15)))
    (l15 : K.lookup f15 = some ⟨oc15, od15, .func (PySem.W.fnOf "_law_size" "_law_size" (defArgs s_law_size) (defBody s_law_size) (defScope s_law_size) .none kV15 dc15 pm15 an15 cd15 ct15), sl15⟩)
    (c15 : PySem.W.codeIn K cd15 "_law_size" = true)
    (k15 : PySem.W.keepIn K (.ref f15) = true)
    (a16 : PySem.W.nsIn K mainGlobals "_law_any" = some (some (.ref f16)))
    (l16 : K.lookup f16 = some ⟨oc16, od16, .func (PySem.W.fnOf "_law_any" "_law_any" (defArgs s_law_any) (defBody s_law_any) (defScope s_law_any) .none kV16 dc16 pm16 an16 cd16 ct16), sl16⟩)
    (c16 : PySem.W.codeIn K cd16 "_law_any" = true)
    (k16 : PySem.W.keepIn K (.ref f16) = true)
    (a17 : PySem.W.nsIn K mainGlobals "_law_balanced" = some (some (.ref f17)))
    (l17 : K.lookup f17 = some ⟨oc17, od17, .func (PySem.W.fnOf "_law_balanced" "_law_balanced" (defArgs s_law_balanced) (defBody s_law_balanced) (defScope s_law_balanced) .none kV17 dc17 pm17 an17 cd17 ct17), sl17⟩)
    (c17 : PySem.W.codeIn K cd17 "_law_balanced" = true)
    (k17 : PySem.W.keepIn K (.ref f17) = true)
    (a18 : PySem.W.nsIn K mainGlobals "_law_changed" = some (some (.ref f18)))
    (l18 : K.lookup f18 = some ⟨oc18, od18, .func (PySem.W.fnOf "_law_changed" "_law_changed" (defArgs s_law_changed) (defBody s_law_changed) (defScope s_law_changed) .none kV18 dc18 pm18 an18 cd18 ct18), sl18⟩)
    (c18 : PySem.W.codeIn K cd18 "_law_changed" = true)
    (k18 : PySem.W.keepIn K (.ref f18) = true)
    (a19 : PySem.W.nsIn K mainGlobals "_law_many" = some (some (.ref f19)))
    (l19 : K.lookup f19 = some ⟨oc19, od19, .func (PySem.W.fnOf "_law_many" "_law_many" (defArgs s_law_many) (defBody s_law_many) (defScope s_law_many) .none kV19 dc19 pm19 an19 cd19 ct19), sl19⟩)
    (c19 : PySem.W.codeIn K cd19 "_law_many" = true)
    (k19 : PySem.W.keepIn K (.ref f19) = true)
    (a20 : PySem.W.nsIn K mainGlobals "_law_wrong" = some (some (.ref f20)))
    (l20 : K.lookup f20 = some ⟨oc20, od20, .func (PySem.W.fnOf "_law_wrong" "_law_wrong" (defArgs s_law_wrong) (defBody s_law_wrong) (defScope s_law_wrong) .none kV20 dc20 pm20 an20 cd20 ct20), sl20⟩)
    (c20 : PySem.W.codeIn K cd20 "_law_wrong" = true)
    (k20 : PySem.W.keepIn K (.ref f20) = true)
    (a21 : PySem.W.nsIn K mainGlobals "_law_is_integer" = some (some (.ref f21)))
    (l21 : K.lookup f21 = some ⟨oc21, od21, .func (PySem.W.fnOf "_law_is_integer" "_law_is_integer" (defArgs s_law_is_integer) (defBody s_law_is_integer) (defScope s_law_is_integer) .none kV21 dc21 pm21 an21 cd21 ct21), sl21⟩)
    (c21 : PySem.W.codeIn K cd21 "_law_is_integer" = true)
    (k21 : PySem.W.keepIn K (.ref f21) = true)
    (a22 : PySem.W.nsIn K mainGlobals "_law_pair" = some (some (.ref f22)))
    (l22 : K.lookup f22 = some ⟨oc22, od22, .func (PySem.W.fnOf "_law_pair" "_law_pair" (defArgs s_law_pair) (defBody s_law_pair) (defScope s_law_pair) .none kV22 dc22 pm22 an22 cd22 ct22), sl22⟩)
    (c22 : PySem.W.codeIn K cd22 "_law_pair" = true)
    (k22 : PySem.W.keepIn K (.ref f22) = true)
    (a23 : PySem.W.nsIn K mainGlobals "_law_right" = some (some (.ref f23)))
    (l23 : K.lookup f23 = some ⟨oc23, od23, .func (PySem.W.fnOf "_law_right" "_law_right" (defArgs s_law_right) (defBody s_law_right) (defScope s_law_right) .none kV23 dc23 pm23 an23 cd23 ct23), sl23⟩)
    (c23 : PySem.W.codeIn K cd23 "_law_right" = true)
    (k23 : PySem.W.keepIn K (.ref f23) = true)
    (a24 : PySem.W.nsIn K mainGlobals "law" = some (some (.ref f24)))
    (l24 : K.lookup f24 = some ⟨oc24, od24, .func (PySem.W.fnOf "law" "law" (defArgs s_law) (defBody s_law) (defScope s_law) .none kV24 dc24 pm24 an24 cd24 ct24), sl24⟩)
    (c24 : PySem.W.codeIn K cd24 "law" = true)
    (k24 : PySem.W.keepIn K (.ref f24) = true)
    (z_isinstance : PySem.W.nsIn K mainGlobals "isinstance" = some none)
    (z_str : PySem.W.nsIn K mainGlobals "str" = some none)
    (z_int : PySem.W.nsIn K mainGlobals "int" = some none)
    (z_bool : PySem.W.nsIn K mainGlobals "bool" = some none)
    (z_tuple : PySem.W.nsIn K mainGlobals "tuple" = some none)
    (z_len : PySem.W.nsIn K mainGlobals "len" = some none)
    (z_all : PySem.W.nsIn K mainGlobals "all" = some none)
    (z_zip : PySem.W.nsIn K mainGlobals "zip" = some none)
    (z_enumerate : PySem.W.nsIn K mainGlobals "enumerate" = some none)
    (z_list : PySem.W.nsIn K mainGlobals "list" = some none)
    (z_abs : PySem.W.nsIn K mainGlobals "abs" = some none)
    (z_range : PySem.W.nsIn K mainGlobals "range" = some none)
    (z_repr : PySem.W.nsIn K mainGlobals "repr" = some none)
    (z_super : PySem.W.nsIn K mainGlobals "super" = some none)
    (aO : PySem.W.nsIn K mainGlobals "Operation" = some (some (.ref OP)))
    (o1 : PySem.W.plainGet K OP Str.empty = true)
    (o2 : PySem.W.hasDictIn K OP = true)
    (o3 : PySem.W.plainOver K OP = true)
    (o4 : PySem.W.findIn K (.ref OP) "__setattr__" = some (some (.builtin "object.__setattr__")))
    (on0 : PySem.W.findIn K (.ref OP) "name" = some none)
    (on1 : PySem.W.findIn K (.ref OP) "turns" = some none)
    (on2 : PySem.W.findIn K (.ref OP) "otherwise" = some none)
    (on3 : PySem.W.findIn K (.ref OP) "_steps" = some none)
    (o5 : PySem.W.makesIn K OP = true)
    (o6 : PySem.W.findIn K (.ref OP) "__init__" = some (some (.ref fOp)))
    (o7 : PySem.W.isFn K (.ref fOp) = true)
    (o8 : PySem.W.keepIn K (.ref OP) = true)
    (lO : K.lookup fOp = some ⟨ocO, odO, .func (PySem.W.fnOf "__init__" "Operation.__init__" (defArgs s_Operation_init) (defBody s_Operation_init) (defScope s_Operation_init) .none (.ref DK) dcO pmO anO cdO ctO), slO⟩)
    (cO : PySem.W.codeIn K cdO "Operation.__init__" = true)
    (kO : PySem.W.keepIn K (.ref fOp) = true)
    (d1 : PySem.W.nsIn K DK "turns" = some (some (.int 1 tk1)))
    (d2 : PySem.W.nsIn K DK "otherwise" = some (some (.int 0 tk2)))
    (s1 : PySem.W.findIn K (.ref OP) "sections" = some (some (.ref fS)))
    (s2 : PySem.W.isFn K (.ref fS) = true)
    (lS : K.lookup fS = some ⟨ocS, odS, .func (PySem.W.fnOf "sections" "Operation.sections" (defArgs s_Operation_sections) (defBody s_Operation_sections) (defScope s_Operation_sections) .none kVS dcS pmS anS cdS ctS), slS⟩)
    (cS : PySem.W.codeIn K cdS "Operation.sections" = true)
    (kS : PySem.W.keepIn K (.ref fS) = true)
    (aB : PySem.W.nsIn K mainGlobals "BadStep" = some (some (.ref BS)))
    (xB : K.lookup BS = some (excClassObj nmB qB BS N bsB bmB true snB subB abB colB ddB m0 m1 m2 m3 m5 "ValueError.__new__"))
    (rB : PySem.HandSPX.refsVE bmB = true)
    (b1 : PySem.W.findIn K (.ref BS) "__setattr__" = some (some (.builtin "object.__setattr__")))
    (b2 : PySem.W.subIn K (.ref BS) (.type "BaseException") = some true)
    (b3 : PySem.W.typeIn K (.ref BS) = some (.type "type"))
    (b4 : PySem.W.keepIn K (.ref BS) = true)
    (b5 : PySem.W.findIn K (.ref BS) "__init__" = some (some (.ref fB)))
    (b6 : PySem.W.typeIn K (.ref fB) = some (.type "function"))
    (lB : K.lookup fB = some ⟨ocB, odB, .func (PySem.W.fnX "__init__" "BadStep.__init__" (defArgs s_BadStep_init) (defBody s_BadStep_init) (defScope s_BadStep_init) [("__class__", cc)] .none kVB dcB pmB anB (.ref cda) ctB), slB⟩)
    (cB : PySem.W.codeIn K (.ref cda) "BadStep.__init__" = true)
    (kB : PySem.W.keepIn K (.ref fB) = true)
    (eB : K.lookup cc = some ⟨ccl, ccd, .cell (some (.ref BS)), ccs⟩)
    (b7 : PySem.W.ks_superIn K BS BS "__init__" = some (some (.builtin "ValueError.__init__")))
    (b8 : PySem.W.subIn K (.ref BS) (.type "ValueError") = some true)
    (b9 : PySem.W.nsIn K cStatics "thirdparty.any" = some none)
    (b10 : PySem.W.mroIn K BS (.ref BS) = some true)
    (b11 : K.lookup cda = some ⟨ccx, cdd, .fields vsB, ccz⟩)
    (b12 : vsB[2]? = some (.str file tf))
    (b13 : ((l.prog.main.file : Str) == file) = true)
    (b14 : (l.prog.main.scope.names.lookup ("super" : Str)).isSome = false)
    (b15 : PySem.W.findIn K (.ref BS) "name" = some none)
    (b16 : PySem.W.findIn K (.ref BS) "at" = some none)
    (b17 : PySem.W.findIn K (.ref BS) "__getattribute__" = some (some (.builtin "BaseException.__getattribute__")))
    (b18 : PySem.W.findIn K (.ref BS) "__getattr__" = some none)
    (b19 : PySem.W.hasDictIn K BS = true)
    (b20 : PySem.W.isClsIn K BS = true)
    (b21 : PySem.W.subIn K (.ref BS) (.ref BS) = some true)
    (cL : PySem.W.nsIn K mainGlobals "LETTERS" = some (some (.str sL tL)))
    (eL : sL = lets)
    (cF : PySem.W.nsIn K mainGlobals "FORMS" = some (some (.ref FA)))
    (lF : K.lookup FA = some ⟨.type "dict", none, .dict esF nF, #[]⟩)
    (kF : PySem.W.KeysLit w.params esF.toList)
    (wF : (FA == sysModules) = false)
    (w0 : PySem.W.nsIn K FA "read" = some (some (.ref R0)))
    (v0 : K.lookup R0 = some ⟨.type "tuple", dt0, .seq its0 nt0, sq0⟩)
    (u0 : its0.size ≤ sizeLine ∧ Vals ((["local", "place", "guard"] : List Str).map V.str) its0.toList)
    (w1 : PySem.W.nsIn K FA "acquire" = some (some (.ref R1)))
    (v1 : K.lookup R1 = some ⟨.type "tuple", dt1, .seq its1 nt1, sq1⟩)
    (u1 : its1.size ≤ sizeLine ∧ Vals ((["local", "place", "guard"] : List Str).map V.str) its1.toList)
    (w2 : PySem.W.nsIn K FA "write" = some (some (.ref R2)))
    (v2 : K.lookup R2 = some ⟨.type "tuple", dt2, .seq its2 nt2, sq2⟩)
    (u2 : its2.size ≤ sizeLine ∧ Vals ((["place", "worth", "guard"] : List Str).map V.str) its2.toList)
    (w3 : PySem.W.nsIn K FA "release" = some (some (.ref R3)))
    (v3 : K.lookup R3 = some ⟨.type "tuple", dt3, .seq its3 nt3, sq3⟩)
    (u3 : its3.size ≤ sizeLine ∧ Vals ((["place", "worth", "guard"] : List Str).map V.str) its3.toList)
    (w4 : PySem.W.nsIn K FA "swap" = some (some (.ref R4)))
    (v4 : K.lookup R4 = some ⟨.type "tuple", dt4, .seq its4 nt4, sq4⟩)
    (u4 : its4.size ≤ sizeLine ∧ Vals ((["local", "place", "worth", "guard"] : List Str).map V.str) its4.toList)
    (w5 : PySem.W.nsIn K FA "cas" = some (some (.ref R5)))
    (v5 : K.lookup R5 = some ⟨.type "tuple", dt5, .seq its5 nt5, sq5⟩)
    (u5 : its5.size ≤ sizeLine ∧ Vals ((["local", "place", "worth", "worth", "guard"] : List Str).map V.str) its5.toList)
    (w6 : PySem.W.nsIn K FA "fence" = some (some (.ref R6)))
    (v6 : K.lookup R6 = some ⟨.type "tuple", dt6, .seq its6 nt6, sq6⟩)
    (u6 : its6.size ≤ sizeLine ∧ Vals ((["name", "guard"] : List Str).map V.str) its6.toList)
    (w7 : PySem.W.nsIn K FA "lock" = some (some (.ref R7)))
    (v7 : K.lookup R7 = some ⟨.type "tuple", dt7, .seq its7 nt7, sq7⟩)
    (u7 : its7.size ≤ sizeLine ∧ Vals ((["name"] : List Str).map V.str) its7.toList)
    (w8 : PySem.W.nsIn K FA "free" = some (some (.ref R8)))
    (v8 : K.lookup R8 = some ⟨.type "tuple", dt8, .seq its8 nt8, sq8⟩)
    (u8 : its8.size ≤ sizeLine ∧ Vals ((["name"] : List Str).map V.str) its8.toList)
    (w9 : PySem.W.nsIn K FA "take" = some (some (.ref R9)))
    (v9 : K.lookup R9 = some ⟨.type "tuple", dt9, .seq its9 nt9, sq9⟩)
    (u9 : its9.size ≤ sizeLine ∧ Vals ((["local", "guard"] : List Str).map V.str) its9.toList)
    (w10 : PySem.W.nsIn K FA "drop" = some (some (.ref R10)))
    (v10 : K.lookup R10 = some ⟨.type "tuple", dt10, .seq its10 nt10, sq10⟩)
    (u10 : its10.size ≤ sizeLine ∧ Vals ((["local", "guard"] : List Str).map V.str) its10.toList)
    (w11 : PySem.W.nsIn K FA "give" = some (some (.ref R11)))
    (v11 : K.lookup R11 = some ⟨.type "tuple", dt11, .seq its11 nt11, sq11⟩)
    (u11 : its11.size ≤ sizeLine ∧ Vals ((["worth", "guard"] : List Str).map V.str) its11.toList)
    (cS_ : PySem.W.nsIn K mainGlobals "SIGNS" = some (some (.ref SG)))
    (v12 : K.lookup SG = some ⟨.type "tuple", dt12, .seq its12 nt12, sq12⟩)
    (u12 : its12.size ≤ sizeLine ∧ Vals ((["=", "!", "<"] : List Str).map V.str) its12.toList)
    (cM1 : PySem.W.nsIn K mainGlobals "MOST_STEPS" = some (some (.int 80 t1)))
    (cM2 : PySem.W.nsIn K mainGlobals "MOST_TURNS" = some (some (.int 4 t2))) :
    ∃ fd : FuncData, (∀ (s : Shared) (v : Value), BindsTo s fd ⟨[v], []⟩ [("_law_script", v)]) ∧ ∀ base : Heap, K.In base → base.Ns mainGlobals mg → FnG l.prog w K mg base (L2.CX l.prog w) 9 fa fd ["_law_script"] (spLaw K) := by
  cases hfa.symm.trans (PySem.W.mg_of X G a24)
  subst eL
  have T0 : Bt0 mg := ⟨(PySem.W.mg_none_of X G z_len), (PySem.W.mg_none_of X G z_int), (PySem.W.mg_none_of X G z_abs), (PySem.W.mg_none_of X G z_range)⟩
  have T2 : Bt2 mg := ⟨(PySem.W.mg_none_of X G z_enumerate), (PySem.W.mg_none_of X G z_len), (PySem.W.mg_none_of X G z_list)⟩
  have T3 : Bt3 mg t1 t2 := ⟨T2, PySem.W.mg_of X G cM1, PySem.W.mg_of X G cM2⟩
  have T4 : Bt4 mg := ⟨T0, (PySem.W.mg_none_of X G z_isinstance), (PySem.W.mg_none_of X G z_tuple), (PySem.W.mg_none_of X G z_bool), (PySem.W.mg_none_of X G z_list)⟩
  have T1 : Bt K w mg FA SG esF nF tL := ⟨(PySem.W.mg_none_of X G z_isinstance), (PySem.W.mg_none_of X G z_str), (PySem.W.mg_none_of X G z_int), (PySem.W.mg_none_of X G z_bool), (PySem.W.mg_none_of X G z_tuple), (PySem.W.mg_none_of X G z_len), (PySem.W.mg_none_of X G z_all), (PySem.W.mg_none_of X G z_zip), PySem.W.mg_of X G cL, PySem.W.mg_of X G cF, PySem.W.mg_of X G cS_, ⟨lF, kF, wF⟩, (fun p hp => by
    unfold forms at hp
    simp only [List.mem_cons, List.not_mem_nil, or_false] at hp
    rcases hp with rfl | rfl | rfl | rfl | rfl | rfl | rfl | rfl | rfl | rfl | rfl | rfl
    · exact ⟨R0, w0, _, its0, nt0, v0, rfl, rfl, u0.1, u0.2⟩
    · exact ⟨R1, w1, _, its1, nt1, v1, rfl, rfl, u1.1, u1.2⟩
    · exact ⟨R2, w2, _, its2, nt2, v2, rfl, rfl, u2.1, u2.2⟩
    · exact ⟨R3, w3, _, its3, nt3, v3, rfl, rfl, u3.1, u3.2⟩
    · exact ⟨R4, w4, _, its4, nt4, v4, rfl, rfl, u4.1, u4.2⟩
    · exact ⟨R5, w5, _, its5, nt5, v5, rfl, rfl, u5.1, u5.2⟩
    · exact ⟨R6, w6, _, its6, nt6, v6, rfl, rfl, u6.1, u6.2⟩
    · exact ⟨R7, w7, _, its7, nt7, v7, rfl, rfl, u7.1, u7.2⟩
    · exact ⟨R8, w8, _, its8, nt8, v8, rfl, rfl, u8.1, u8.2⟩
    · exact ⟨R9, w9, _, its9, nt9, v9, rfl, rfl, u9.1, u9.2⟩
    · exact ⟨R10, w10, _, its10, nt10, v10, rfl, rfl, u10.1, u10.2⟩
    · exact ⟨R11, w11, _, its11, nt11, v11, rfl, rfl, u11.1, u11.2⟩), ⟨_, its12, nt12, v12, rfl, rfl, u12.1, u12.2⟩⟩
  have F0 := fun_mk (st := s_is_name) l0 c0 k0
  have D0 : Df K mg "is_name" s_is_name ["value"] f0 _ := ⟨F0, PySem.W.mg_of X G a0, F0.binds (ps := ["value"]) fun _ _ _ _ _ _ us hl => match us, hl with | [_], _ => rfl⟩
  have F1 := fun_mk (st := s_is_below) l1 c1 k1
  have D1 : Df K mg "is_below" s_is_below ["value", "bound"] f1 _ := ⟨F1, PySem.W.mg_of X G a1, F1.binds (ps := ["value", "bound"]) fun _ _ _ _ _ _ us hl => match us, hl with | [_, _], _ => rfl⟩
  have F2 := fun_mk (st := s_is_number) l2 c2 k2
  have D2 : Df K mg "is_number" s_is_number ["value"] f2 _ := ⟨F2, PySem.W.mg_of X G a2, F2.binds (ps := ["value"]) fun _ _ _ _ _ _ us hl => match us, hl with | [_], _ => rfl⟩
  have F3 := fun_mk (st := s_is_place) l3 c3 k3
  have D3 : Df K mg "is_place" s_is_place ["part"] f3 _ := ⟨F3, PySem.W.mg_of X G a3, F3.binds (ps := ["part"]) fun _ _ _ _ _ _ us hl => match us, hl with | [_], _ => rfl⟩
  have F4 := fun_mk (st := s_is_worth) l4 c4 k4
  have D4 : Df K mg "is_worth" s_is_worth ["part"] f4 _ := ⟨F4, PySem.W.mg_of X G a4, F4.binds (ps := ["part"]) fun _ _ _ _ _ _ us hl => match us, hl with | [_], _ => rfl⟩
  have F5 := fun_mk (st := s_is_guard) l5 c5 k5
  have D5 : Df K mg "is_guard" s_is_guard ["part"] f5 _ := ⟨F5, PySem.W.mg_of X G a5, F5.binds (ps := ["part"]) fun _ _ _ _ _ _ us hl => match us, hl with | [_], _ => rfl⟩
  have F6 := fun_mk (st := s_is_part) l6 c6 k6
  have D6 : Df K mg "is_part" s_is_part ["part", "role"] f6 _ := ⟨F6, PySem.W.mg_of X G a6, F6.binds (ps := ["part", "role"]) fun _ _ _ _ _ _ us hl => match us, hl with | [_, _], _ => rfl⟩
  have F7 := fun_mk (st := s_is_step) l7 c7 k7
  have D7 : Df K mg "is_step" s_is_step ["step"] f7 _ := ⟨F7, PySem.W.mg_of X G a7, F7.binds (ps := ["step"]) fun _ _ _ _ _ _ us hl => match us, hl with | [_], _ => rfl⟩
  have F8 := fun_mk (st := s_lock_fault) l8 c8 k8
  have D8 : Df K mg "lock_fault" s_lock_fault ["steps"] f8 _ := ⟨F8, PySem.W.mg_of X G a8, F8.binds (ps := ["steps"]) fun _ _ _ _ _ _ us hl => match us, hl with | [_], _ => rfl⟩
  have F9 := fun_mk (st := s_sections_of) l9 c9 k9
  have D9 : Df K mg "sections_of" s_sections_of ["steps"] f9 _ := ⟨F9, PySem.W.mg_of X G a9, F9.binds (ps := ["steps"]) fun _ _ _ _ _ _ us hl => match us, hl with | [_], _ => rfl⟩
  have F10 := fun_mk (st := s_law_row) l10 c10 k10
  have D10 : Df K mg "_law_row" s_law_row ["_law_script"] f10 _ := ⟨F10, PySem.W.mg_of X G a10, F10.binds (ps := ["_law_script"]) fun _ _ _ _ _ _ us hl => match us, hl with | [_], _ => rfl⟩
  have F11 := fun_mk (st := s_law_draw) l11 c11 k11
  have D11 : Df K mg "_law_draw" s_law_draw ["_law_row_here", "_law_many_here"] f11 _ := ⟨F11, PySem.W.mg_of X G a11, F11.binds (ps := ["_law_row_here", "_law_many_here"]) fun _ _ _ _ _ _ us hl => match us, hl with | [_, _], _ => rfl⟩
  have F12 := fun_mk (st := s_law_word) l12 c12 k12
  have D12 : Df K mg "_law_word" s_law_word ["_law_row_here", "_law_size_here"] f12 _ := ⟨F12, PySem.W.mg_of X G a12, F12.binds (ps := ["_law_row_here", "_law_size_here"]) fun _ _ _ _ _ _ us hl => match us, hl with | [_, _], _ => rfl⟩
  have F13 := fun_mk (st := s_law_names) l13 c13 k13
  have D13 : Df K mg "_law_names" s_law_names ["_law_row_here", "_law_many_here"] f13 _ := ⟨F13, PySem.W.mg_of X G a13, F13.binds (ps := ["_law_row_here", "_law_many_here"]) fun _ _ _ _ _ _ us hl => match us, hl with | [_, _], _ => rfl⟩
  have F14 := fun_mk (st := s_law_other) l14 c14 k14
  have D14 : Df K mg "_law_other" s_law_other ["_law_row_here", "_law_name"] f14 _ := ⟨F14, PySem.W.mg_of X G a14, F14.binds (ps := ["_law_row_here", "_law_name"]) fun _ _ _ _ _ _ us hl => match us, hl with | [_, _], _ => rfl⟩
  have F15 := fun_mk (st := s_law_size) l15 c15 k15
  have D15 : Df K mg "_law_size" s_law_size ["_law_row_here"] f15 _ := ⟨F15, PySem.W.mg_of X G a15, F15.binds (ps := ["_law_row_here"]) fun _ _ _ _ _ _ us hl => match us, hl with | [_], _ => rfl⟩
  have F16 := fun_mk (st := s_law_any) l16 c16 k16
  have D16 : Df K mg "_law_any" s_law_any ["_law_row_here", "_law_name", "_law_locks", "_law_size_here"] f16 _ := ⟨F16, PySem.W.mg_of X G a16, F16.binds (ps := ["_law_row_here", "_law_name", "_law_locks", "_law_size_here"]) fun _ _ _ _ _ _ us hl => match us, hl with | [_, _, _, _], _ => rfl⟩
  have F17 := fun_mk (st := s_law_balanced) l17 c17 k17
  have D17 : Df K mg "_law_balanced" s_law_balanced ["_law_row_here", "_law_name", "_law_locks", "_law_size_here"] f17 _ := ⟨F17, PySem.W.mg_of X G a17, F17.binds (ps := ["_law_row_here", "_law_name", "_law_locks", "_law_size_here"]) fun _ _ _ _ _ _ us hl => match us, hl with | [_, _, _, _], _ => rfl⟩
  have F18 := fun_mk (st := s_law_changed) l18 c18 k18
  have D18 : Df K mg "_law_changed" s_law_changed ["_law_row_here", "_law_steps", "_law_locks"] f18 _ := ⟨F18, PySem.W.mg_of X G a18, F18.binds (ps := ["_law_row_here", "_law_steps", "_law_locks"]) fun _ _ _ _ _ _ us hl => match us, hl with | [_, _, _], _ => rfl⟩
  have F19 := fun_mk (st := s_law_many) l19 c19 k19
  have D19 : Df K mg "_law_many" s_law_many ["_law_steps", "_law_lock"] f19 _ := ⟨F19, PySem.W.mg_of X G a19, F19.binds (ps := ["_law_steps", "_law_lock"]) fun _ _ _ _ _ _ us hl => match us, hl with | [_, _], _ => rfl⟩
  have F20 := fun_mk (st := s_law_wrong) l20 c20 k20
  have D20 : Df K mg "_law_wrong" s_law_wrong ["_law_steps", "_law_locks"] f20 _ := ⟨F20, PySem.W.mg_of X G a20, F20.binds (ps := ["_law_steps", "_law_locks"]) fun _ _ _ _ _ _ us hl => match us, hl with | [_, _], _ => rfl⟩
  have F21 := fun_mk (st := s_law_is_integer) l21 c21 k21
  have D21 : Df K mg "_law_is_integer" s_law_is_integer ["_law_told"] f21 _ := ⟨F21, PySem.W.mg_of X G a21, F21.binds (ps := ["_law_told"]) fun _ _ _ _ _ _ us hl => match us, hl with | [_], _ => rfl⟩
  have F22 := fun_mk (st := s_law_pair) l22 c22 k22
  have D22 : Df K mg "_law_pair" s_law_pair ["_law_steps", "_law_depth", "_law_pair_here", "_law_behind"] f22 _ := ⟨F22, PySem.W.mg_of X G a22, F22.binds (ps := ["_law_steps", "_law_depth", "_law_pair_here", "_law_behind"]) fun _ _ _ _ _ _ us hl => match us, hl with | [_, _, _, _], _ => rfl⟩
  have F23 := fun_mk (st := s_law_right) l23 c23 k23
  have D23 : Df K mg "_law_right" s_law_right ["_law_steps", "_law_told"] f23 _ := ⟨F23, PySem.W.mg_of X G a23, F23.binds (ps := ["_law_steps", "_law_told"]) fun _ _ _ _ _ _ us hl => match us, hl with | [_, _], _ => rfl⟩
  have F24 := fun_mk (st := s_law) l24 c24 k24
  have D24 : Df K mg "law" s_law ["_law_script"] fa _ := ⟨F24, PySem.W.mg_of X G a24, F24.binds (ps := ["_law_script"]) fun _ _ _ _ _ _ us hl => match us, hl with | [_], _ => rfl⟩
  have FO := fun_mk (st := s_Operation_init) lO cO kO
  have FS := fun_mk (st := s_Operation_sections) lS cS kS
  have FD : FunD K "__init__" "Operation.__init__" (defArgs s_Operation_init) (defBody s_Operation_init) (defScope s_Operation_init) [] [("turns", V.int 1), ("otherwise", V.int 0)] fOp _ := ⟨⟨ocO, odO, .none, .ref DK, dcO, pmO, anO, cdO, ctO, slO, rfl, lO, cO, .inl ⟨rfl, rfl⟩, .inr ⟨DK, rfl, fun q hq => by
    simp only [List.mem_cons, List.not_mem_nil, or_false] at hq
    rcases hq with rfl | rfl
    · exact ⟨_, d1, _, rfl⟩
    · exact ⟨_, d2, _, rfl⟩⟩⟩, kO⟩
  obtain ⟨ds, hds, hbO⟩ := FD.binds0 (ps := ["self", "name", "steps", "turns", "otherwise"]) 3 (by simp) rfl fun D doc pm an cdv ct us ks h1 h2 => match us, h1, ks, h2 with | [_, _, _], _, [_, _], _ => ⟨_, _, _, _, _, _, rfl, rfl, ⟨_, _, _, _, _, _, rfl, rfl, rfl⟩⟩
  have bS : Binds K _ ["self"] [] := FS.binds (ps := ["self"]) fun _ _ _ _ _ _ us hl => match us, hl with | [_], _ => rfl
  have OX : OexC K BS := ⟨⟨nmB, qB, N, bsB, bmB, snB, subB, abB, colB, ddB, m0, m1, m2, m3, m5, xB, rB⟩, b1, b2, b3, b4⟩
  have EC : ErrC K BS := ⟨OX, b7, b8, b9, b10⟩
  have CF : CodeF K l.prog cda := ⟨⟨ccx, cdd, vsB, ccz, file, tf, b11, b12, b13⟩, b14⟩
  have FX : FunX K "__init__" "BadStep.__init__" s_BadStep_init fB _ cc cda BS := ⟨⟨ocB, odB, kVB, dcB, pmB, anB, ctB, slB, rfl, lB, cB⟩, ⟨ccl, ccd, ccs, eB⟩, kB⟩
  have OC : OpC K mg OP := ⟨PySem.W.mg_of X G aO, ⟨o1, o2, o3, o4⟩, on0, on1, on2, on3⟩
  have T5 : Bt5 K mg OP BS fOp fS := ⟨T4, (PySem.W.mg_none_of X G z_repr), PySem.W.mg_of X G aO, ⟨o1, o2, o3, o4⟩, PySem.W.mg_of X G aB, ⟨o5, o6, o7, o8⟩, ⟨s1, s2, kS⟩, ⟨b17, b18, b2, b19⟩, b15, exm_selfB b2 b20 b3 b21, b16⟩
  refine ⟨PySem.W.fnOf "law" "law" (defArgs s_law) (defBody s_law) (defScope s_law) .none kV24 dc24 pm24 an24 cd24 ct24, fun s v => .of_eq rfl, fun base _ _ => ?_⟩
  have G0 := ok_is_name (P := l.prog) (w := w) (base := base) D0 T1 
  have G1 := ok_is_below (P := l.prog) (w := w) (base := base) D1 T1 
  have G2 := ok_is_number (P := l.prog) (w := w) (base := base) D2 T1 D1 G1
  have G3 := ok_is_place (P := l.prog) (w := w) (base := base) D3 T1 D0 G0
  have G4 := ok_is_worth (P := l.prog) (w := w) (base := base) D4 T1 D0 G0 D2 G2
  have G5 := ok_is_guard (P := l.prog) (w := w) (base := base) D5 T1 D0 G0 D4 G4
  have G6 := ok_is_part (P := l.prog) (w := w) (base := base) D6 T1 D3 G3 D4 G4 D5 G5 D0 G0
  have G7 := ok_is_step (P := l.prog) (w := w) (base := base) D7 T1 D6 G6
  have G8 := ok_lock_fault (P := l.prog) (w := w) (base := base) D8 T2 
  have G9 := ok_sections_of (P := l.prog) (w := w) (base := base) D9 T2 
  have G10 := ok_law_row (P := l.prog) (w := w) (base := base) D10 T0 
  have G11 := ok_law_draw (P := l.prog) (w := w) (base := base) D11 T0 
  have G12 := ok_law_word (P := l.prog) (w := w) (base := base) D12 T0 D11 G11
  have G13 := ok_law_names (P := l.prog) (w := w) (base := base) D13 T0 D11 G11 D12 G12
  have G14 := ok_law_other (P := l.prog) (w := w) (base := base) D14  D11 G11
  have G15 := ok_law_size (P := l.prog) (w := w) (base := base) D15  D11 G11
  have G16 := ok_law_any (P := l.prog) (w := w) (base := base) D16 T0 D11 G11 D14 G14
  have G17 := ok_law_balanced (P := l.prog) (w := w) (base := base) D17 T0 D11 G11 D14 G14
  have G18 := ok_law_changed (P := l.prog) (w := w) (base := base) D18 T0 D11 G11
  have G19 := ok_law_many (P := l.prog) (w := w) (base := base) D19  
  have G20 := ok_law_wrong (P := l.prog) (w := w) (base := base) D20 T0 D19 G19
  have G21 := ok_law_is_integer (P := l.prog) (w := w) (base := base) D21 T4 
  have G22 := ok_law_pair (P := l.prog) (w := w) (base := base) D22 T4 D21 G21
  have G23 := ok_law_right (P := l.prog) (w := w) (base := base) D23 T4 D22 G22
  have GB := ok_BadStep_init (P := l.prog) (w := w) (base := base) (mg := mg) (CX := L2.CX l.prog w) FX EC CF (PySem.W.mg_none_of X G z_super) b15 b16
  have SB : BsC l.prog w K mg base BS fB _ := ⟨PySem.W.mg_of X G aB, OX, b5, b6, .all fun us hl => match us, hl with | [_, _, _], _ => rfl, GB⟩
  have GO := ok_Operation_init (P := l.prog) (w := w) (base := base) FO T3 OC SB D0 G0 D7 G7 D8 G8 D1 G1 D2 G2
  have GS := ok_Operation_sections (P := l.prog) (w := w) (base := base) FS OC D9 G9
  exact ok_law (P := l.prog) (w := w) (base := base) D24 T5 D10 G10 D11 G11 D13 G13 D15 G15 D16 G16 D17 G17 D18 G18 D20 G20 D23 G23 hds hbO GO bS GS
theorem walk {l : PySem.W.OpenLaw} {q : Program} {loose : List Str} {XP : (Str → Option Value) → Heap → Prop} {YP : World → Heap → Prop} {d : DefRec} {K : Params → PySem.W.Frag} (hn : l.most = some 63) (hdf : d.params.defaults = [])
    (hY : ∀ (w : World) (h : Heap), YP w h → (K w.params).In h)
    (F : ∀ (w : World) (mg : Str → Option Value) (fa : Addr) (h : Heap), (K w.params).In h → h.Ns mainGlobals mg → mg d.name = some (.ref fa) →
      ∃ fd : FuncData, (∀ (s : Shared) (u : Value), BindsTo s fd ⟨[u], []⟩ [("_law_script", u)]) ∧ ∀ base : Heap, (K w.params).In base → base.Ns mainGlobals mg → FnG l.prog w (K w.params) mg base (L2.CX l.prog w) 9 fa fd ["_law_script"] (spLaw (K w.params))) :
    PySem.W.WalkO q loose XP YP l.row.toRowW d [] (fun f vs => PySem.call f vs) :=
  walk_ofG (n := 63) (k := 9) (x := "_law_script") (sp := fun w => spLaw (K w.params)) hn (by decide) hdf ⟨rfl, by decide, by decide⟩ hY F fun _ _ a ns hl hS => ⟨a, ns, rfl, hS, hl, fun _ => rfl⟩
end My
open PySem PySem.W PyProof.Rows in
set_option maxRecDepth 100000 in
set_option maxHeartbeats 0 in
theorem PySem.Challenge.cw_coretower_k26_locks_and_sections_holds : PySem.Challenge.rw_coretower_k26_locks_and_sections.Holds := by
  w_on; o_law; k_head; (case hw => w_witness2)
  k_fill
  refine My.walk (l := PySem.Challenge.rw_coretower_k26_locks_and_sections) rfl rfl (fun w h Y => PySem.W.kIn_of Y) ?F
  case F =>
    intro w mg fa h KX G hmg
    refine' My.all_mk KX G hmg ?a0 ?l0 ?c0 ?k0 ?a1 ?l1 ?c1 ?k1 ?a2 ?l2 ?c2 ?k2 ?a3 ?l3 ?c3 ?k3 ?a4 ?l4 ?c4 ?k4 ?a5 ?l5 ?c5 ?k5 ?a6 ?l6 ?c6 ?k6 ?a7 ?l7 ?c7 ?k7 ?a8 ?l8 ?c8 ?k8 ?a9 ?l9 ?c9 ?k9 ?a10 ?l10 ?c10 ?k10 ?a11 ?l11 ?c11 ?k11 ?a12 ?l12 ?c12 ?k12 ?a13 ?l13 ?c13 ?k13 ?a14 ?l14 ?c14 ?k14 ?a15 ?l15 ?c15 ?k15 ?a16 ?l16 ?c16 ?k16 ?a17 ?l17 ?c17 ?k17 ?a18 ?l18 ?c18 ?k18 ?a19 ?l19 ?c19 ?k19 ?a20 ?l20 ?c20 ?k20 ?a21 ?l21 ?c21 ?k21 ?a22 ?l22 ?c22 ?k22 ?a23 ?l23 ?c23 ?k23 ?a24 ?l24 ?c24 ?k24 ?z_isinstance ?z_str ?z_int ?z_bool ?z_tuple ?z_len ?z_all ?z_zip ?z_enumerate ?z_list ?z_abs ?z_range ?z_repr ?z_super ?aO ?o1 ?o2 ?o3 ?o4 ?on0 ?on1 ?on2 ?on3 ?o5 ?o6 ?o7 ?o8 ?lO ?cO ?kO ?d1 ?d2 ?s1 ?s2 ?lS ?cS ?kS ?aB ?xB ?rB ?b1 ?b2 ?b3 ?b4 ?b5 ?b6 ?lB ?cB ?kB ?eB ?b7 ?b8 ?b9 ?b10 ?b11 ?b12 ?b13 ?b14 ?b15 ?b16 ?b17 ?b18 ?b19 ?b20 ?b21 ?cL ?eL ?cF ?lF ?kF ?wF ?w0 ?v0 ?u0 ?w1 ?v1 ?u1 ?w2 ?v2 ?u2 ?w3 ?v3 ?u3 ?w4 ?v4 ?u4 ?w5 ?v5 ?u5 ?w6 ?v6 ?u6 ?w7 ?v7 ?u7 ?w8 ?v8 ?u8 ?w9 ?v9 ?u9 ?w10 ?v10 ?u10 ?w11 ?v11 ?u11 ?cS_ ?v12 ?u12 ?cM1 ?cM2
    (case a0 => k_is)
    (case l0 => k_is)
    (case c0 => k_is)
    (case k0 => k_is)
    (case a1 => k_is)
    (case l1 => k_is)
    (case c1 => k_is)
    (case k1 => k_is)
    (case a2 => k_is)
    (case l2 => k_is)
    (case c2 => k_is)
    (case k2 => k_is)
    (case a3 => k_is)
    (case l3 => k_is)
    (case c3 => k_is)
    (case k3 => k_is)
    (case a4 => k_is)
    (case l4 => k_is)
    (case c4 => k_is)
    (case k4 => k_is)
    (case a5 => k_is)
    (case l5 => k_is)
    (case c5 => k_is)
    (case k5 => k_is)
    (case a6 => k_is)
    (case l6 => k_is)
    (case c6 => k_is)
    (case k6 => k_is)
    (case a7 => k_is)
    (case l7 => k_is)
    (case c7 => k_is)
    (case k7 => k_is)
    (case a8 => k_is)
    (case l8 => k_is)
    (case c8 => k_is)
    (case k8 => k_is)
    (case a9 => k_is)
    (case l9 => k_is)
    (case c9 => k_is)
    (case k9 => k_is)
    (case a10 => k_is)
    (case l10 => k_is)
    (case c10 => k_is)
    (case k10 => k_is)
    (case a11 => k_is)
    (case l11 => k_is)
    (case c11 => k_is)
    (case k11 => k_is)
    (case a12 => k_is)
    (case l12 => k_is)
    (case c12 => k_is)
    (case k12 => k_is)
    (case a13 => k_is)
    (case l13 => k_is)
    (case c13 => k_is)
    (case k13 => k_is)
    (case a14 => k_is)
    (case l14 => k_is)
    (case c14 => k_is)
    (case k14 => k_is)
    (case a15 => k_is)
    (case l15 => k_is)
    (case c15 => k_is)
    (case k15 => k_is)
    (case a16 => k_is)
    (case l16 => k_is)
    (case c16 => k_is)
    (case k16 => k_is)
    (case a17 => k_is)
    (case l17 => k_is)
    (case c17 => k_is)
    (case k17 => k_is)
    (case a18 => k_is)
    (case l18 => k_is)
    (case c18 => k_is)
    (case k18 => k_is)
    (case a19 => k_is)
    (case l19 => k_is)
    (case c19 => k_is)
    (case k19 => k_is)
    (case a20 => k_is)
    (case l20 => k_is)
    (case c20 => k_is)
    (case k20 => k_is)
    (case a21 => k_is)
    (case l21 => k_is)
    (case c21 => k_is)
    (case k21 => k_is)
    (case a22 => k_is)
    (case l22 => k_is)
    (case c22 => k_is)
    (case k22 => k_is)
    (case a23 => k_is)
    (case l23 => k_is)
    (case c23 => k_is)
    (case k23 => k_is)
    (case a24 => k_is)
    (case l24 => k_is)
    (case c24 => k_is)
    (case k24 => k_is)
    (case z_isinstance => k_is)
    (case z_str => k_is)
    (case z_int => k_is)
    (case z_bool => k_is)
    (case z_tuple => k_is)
    (case z_len => k_is)
    (case z_all => k_is)
    (case z_zip => k_is)
    (case z_enumerate => k_is)
    (case z_list => k_is)
    (case z_abs => k_is)
    (case z_range => k_is)
    (case z_repr => k_is)
    (case z_super => k_is)
    (case aO => k_is)
    (case o1 => k_is)
    (case o2 => k_is)
    (case o3 => k_is)
    (case o4 => k_is)
    (case on0 => k_is)
    (case on1 => k_is)
    (case on2 => k_is)
    (case on3 => k_is)
    (case o5 => k_is)
    (case o6 => k_is)
    (case o7 => k_is)
    (case o8 => k_is)
    (case lO => k_is)
    (case cO => k_is)
    (case kO => k_is)
    (case d1 => k_is)
    (case d2 => k_is)
    (case s1 => k_is)
    (case s2 => k_is)
    (case lS => k_is)
    (case cS => k_is)
    (case kS => k_is)
    (case aB => k_is)
    (case xB => k_is)
    (case rB => decide +kernel)
    (case b1 => k_is)
    (case b2 => k_is)
    (case b3 => k_is)
    (case b4 => k_is)
    (case b5 => k_is)
    (case b6 => k_is)
    (case lB => k_is)
    (case cB => k_is)
    (case kB => k_is)
    (case eB => k_is)
    (case b7 => ks_is)
    (case b8 => k_is)
    (case b9 => k_is)
    (case b10 => k_is)
    (case b11 => k_is)
    (case b12 => rfl)
    (case b13 => first | rfl | decide +kernel)
    (case b14 => first | rfl | decide +kernel)
    (case b15 => k_is)
    (case b16 => k_is)
    (case b17 => k_is)
    (case b18 => k_is)
    (case b19 => k_is)
    (case b20 => k_is)
    (case b21 => first | rfl | k_is)
    (case cL => k_is)
    (case eL => decide +kernel)
    (case cF => k_is)
    (case lF => k_is)
    (case kF => k_keys)
    (case wF => decide)
    (case w0 => k_is)
    (case v0 => k_is)
    (case u0 => exact ⟨by decide, by exact .cons ⟨_, rfl⟩ (.cons ⟨_, rfl⟩ (.cons ⟨_, rfl⟩ (.nil)))⟩)
    (case w1 => k_is)
    (case v1 => k_is)
    (case u1 => exact ⟨by decide, by exact .cons ⟨_, rfl⟩ (.cons ⟨_, rfl⟩ (.cons ⟨_, rfl⟩ (.nil)))⟩)
    (case w2 => k_is)
    (case v2 => k_is)
    (case u2 => exact ⟨by decide, by exact .cons ⟨_, rfl⟩ (.cons ⟨_, rfl⟩ (.cons ⟨_, rfl⟩ (.nil)))⟩)
    (case w3 => k_is)
    (case v3 => k_is)
    (case u3 => exact ⟨by decide, by exact .cons ⟨_, rfl⟩ (.cons ⟨_, rfl⟩ (.cons ⟨_, rfl⟩ (.nil)))⟩)
    (case w4 => k_is)
    (case v4 => k_is)
    (case u4 => exact ⟨by decide, by exact .cons ⟨_, rfl⟩ (.cons ⟨_, rfl⟩ (.cons ⟨_, rfl⟩ (.cons ⟨_, rfl⟩ (.nil))))⟩)
    (case w5 => k_is)
    (case v5 => k_is)
    (case u5 => exact ⟨by decide, by exact .cons ⟨_, rfl⟩ (.cons ⟨_, rfl⟩ (.cons ⟨_, rfl⟩ (.cons ⟨_, rfl⟩ (.cons ⟨_, rfl⟩ (.nil)))))⟩)
    (case w6 => k_is)
    (case v6 => k_is)
    (case u6 => exact ⟨by decide, by exact .cons ⟨_, rfl⟩ (.cons ⟨_, rfl⟩ (.nil))⟩)
    (case w7 => k_is)
    (case v7 => k_is)
    (case u7 => exact ⟨by decide, by exact .cons ⟨_, rfl⟩ (.nil)⟩)
    (case w8 => k_is)
    (case v8 => k_is)
    (case u8 => exact ⟨by decide, by exact .cons ⟨_, rfl⟩ (.nil)⟩)
    (case w9 => k_is)
    (case v9 => k_is)
    (case u9 => exact ⟨by decide, by exact .cons ⟨_, rfl⟩ (.cons ⟨_, rfl⟩ (.nil))⟩)
    (case w10 => k_is)
    (case v10 => k_is)
    (case u10 => exact ⟨by decide, by exact .cons ⟨_, rfl⟩ (.cons ⟨_, rfl⟩ (.nil))⟩)
    (case w11 => k_is)
    (case v11 => k_is)
    (case u11 => exact ⟨by decide, by exact .cons ⟨_, rfl⟩ (.cons ⟨_, rfl⟩ (.nil))⟩)
    (case cS_ => k_is)
    (case v12 => k_is)
    (case u12 => exact ⟨by decide, by exact .cons ⟨_, rfl⟩ (.cons ⟨_, rfl⟩ (.cons ⟨_, rfl⟩ (.nil)))⟩)
    (case cM1 => k_is)
    (case cM2 => k_is)

