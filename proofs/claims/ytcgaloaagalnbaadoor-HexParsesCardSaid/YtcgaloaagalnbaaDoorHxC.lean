/-
  The contracts of the layer's own functions, as the laws take them: hexText_any, hexLoad_any, hexParse_any, hexDump_any; HexOk is what they ask of the listed variables.
-/
import Derived.Test.YtcgaloaagalnbaaDoorCHexD
